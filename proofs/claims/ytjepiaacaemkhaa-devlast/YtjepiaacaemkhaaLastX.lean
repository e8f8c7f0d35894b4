/-
  The walk of DevLast: it answers true, and touches nothing that was there.
-/
import Derived.Test.YtjepiaacaemkhaaLastW
import Derived.Test.YtjepiaacaemkhaaKeepsX
namespace Go.Proofs.Ytjepiaacaemkhaa
open Go.RowKit Go.Shelf
set_option linter.unusedSimpArgs false
set_option linter.unusedVariables false

theorem abs6 {p : Act → Prop} {a : Act} (i0 i1 i2 i3 i4 i5 n : Nat) {v0 v1 v2 v3 v4 v5 : Value} {ds : List Deferred} (h0 : a.eval (.tmp i0) = v0) (h1 : a.eval (.tmp i1) = v1) (h2 : a.eval (.tmp i2) = v2) (h3 : a.eval (.tmp i3) = v3) (h4 : a.eval (.tmp i4) = v4) (h5 : a.eval (.tmp i5) = v5) (hs : a.tmps.size = n) (hd : a.defers = ds)
    (h : ∀ a' : Act, a'.eval (.tmp i0) = v0 → a'.eval (.tmp i1) = v1 → a'.eval (.tmp i2) = v2 → a'.eval (.tmp i3) = v3 → a'.eval (.tmp i4) = v4 → a'.eval (.tmp i5) = v5 → a'.tmps.size = n → a'.defers = ds → p a') : p a := h a h0 h1 h2 h3 h4 h5 hs hd

section
variable {ρ : Operand → Value} {w : World} {dst : Option Tmp} {ty : TypeId} {pos : String} {aft : Array Edge} {gd : Option (Nat × Bool)}
theorem r_mul64 {x y : Operand} {i : Nat} (hx : ρ x = .int .i64 64) (hy : ρ y = .int .i64 i) (h : i ≤ 4096) : (execOp ρ ⟨dst, .binOp .mul 3 x y 3, ty, pos, aft, gd⟩).run Try.prog w = .ok (.value (.int .i64 ((64 * i : Nat) : Int))) w := by
  have hw : IntKind.i64.wrap (64 * (i : Int)) = ((64 * i : Nat) : Int) := by rw [IntKind.wrap_i64]; omega
  go_simp
theorem r_len56 {x : Operand} {ao : Option Addr} {l c : Nat} (hx : ρ x = .slice ao l c) : (execOp ρ ⟨dst, .call { callee := .builtin .len, args := #[x], argTypes := #[56] }, ty, pos, aft, gd⟩).run Try.prog w = .ok (.value (.int .i64 l)) w := by
  go_simp
end

set_option maxHeartbeats 1000000 in
theorem last_many (w : World) (ao : Option Addr) (len cap : Nat) (x : Int) (h : 30 < len) (hl : len ≤ 9223372036854775807) :
    Calls Try.prog 5 #[.slice ao len cap, .int .u8 x] w fun e w' => e = .returned (.bool true) ∧ Kept (fun _ => False) w w' := by
  go_enter Try.func5, Try.ntmps5
  go_wp2_with (go_at_call 6; refine (first_any w).mono ?_; rintro e w1 ⟨rfl, hk⟩)
  go_ret
  exact ⟨rfl, hk⟩

set_option maxRecDepth 100000 in
set_option maxHeartbeats 4000000 in
theorem last_any (w : World) (ao : Option Addr) (len cap : Nat) (x : Int) (hx1 : 0 ≤ x) (hx2 : x < 256) (hlen : len ≤ 30) (Ls : Nat → List Value) (hLs : ∀ i, (Ls i).length = 64) (hLb : ∀ i, ∀ v ∈ Ls i, isByte v)
    (hsrc : 0 < len → ∃ sb so, ao = some ⟨sb, so, none⟩ ∧ sb < w.heap.size ∧ ∀ i, i < len → Cells w sb (so + i * 64) (Ls i)) :
    Calls Try.prog 5 #[.slice ao len cap, .int .u8 x] w fun e w' => e = .returned (.bool true) ∧ Kept (fun _ => False) w w' := by
  obtain ⟨n, hn, hnv⟩ : ∃ n : Nat, n < 6 ∧ x % 6 = (n : Int) := ⟨(x % 6).toNat, by omega, by omega⟩
  have HNV := hide hnv
  have HLs := hide hLs
  have HLb := hide hLb
  have HSrc := hide hsrc
  obtain ⟨i5, hi5, hz5, hs5, hb5⟩ := info_parts Try.info5
  have Hi5 := hide hi5
  have Hz5 := hide hz5
  have Hs5 := hide hs5
  have Hb5 := hide hb5
  clear hnv hLs hLb hsrc hi5 hz5 hs5 hb5
  go_enter Try.func5, Try.ntmps5
  go_wp2_with fail
  refine (first_any w).mono ?_
  rintro e w1 ⟨rfl, hk1⟩
  go_wp2_with fail
  refine (Dv.new w w1 6 (by decide) (by decide) hk1 [] (by simp)).mono ?_
  rintro e w2 ⟨d, rfl, h2⟩
  go_wp2_with ((with_reducible refine aw_make (n := 64) 1 (by decide) Try.underlying28 Hi5.out Hz5.out rfl Hs5.out rfl rfl (by rw [Hb5.out]; decide) (by unfold maxLen; decide) ?_); intro w3 hw3 hk3 hz3; have Hz3 := hide hz3; clear hz3)
  rw [HNV.out]
  have h3 := h2.more hk3 w2.heap.size (List.replicate (64 * 1) (.int .u8 0)) 5 hw3 (Nat.le_refl _)
  clear h2 hw3 hk3 hk1
  go_loopw [8, 29] (fun l i wr => ∃ (k gl cp : Nat) (cur : List Value), k ≤ len ∧ i = .int .i64 k ∧ l = .slice (some ⟨gl, 0, none⟩) 64 cp ∧ cur.take 64 = lastL Ls k ∧ 64 ≤ cp ∧ Dv w wr d 6 (stL n Ls k) [(gl, cur, 5)]) (fun _ i _ => len - (intOf i).toNat)
  case atStart => exact ⟨0, _, _, _, Nat.zero_le _, rfl, rfl, by simp [lastL], Nat.le_refl _, h3⟩
  case round =>
    obtain ⟨k, gl, cp, cur, hk, rfl, rfl, hcur, hcp, h4⟩ := hrel
    have HCur := hide hcur
    clear h3 hcur
    by_cases hlt : k < len
    · obtain ⟨sb, so, rfl, hsb, hsrc⟩ := HSrc.out (by omega)
      have hsk := h4.kept.cells (hsrc k hlt) (fun h => h)
      have H64 := hide (HLs.out k)
      have HL1 : Hid (∀ v ∈ Ls k, v.oneCell' = true) := hide (fun v hv => (HLb.out k v hv).one)
      obtain ⟨M, hMe⟩ : ∃ M, M = Ls k := ⟨_, rfl⟩
      rw [← hMe] at hsk H64 HL1
      have HMe := hide hMe
      have HSrc2 := hide hsrc
      clear hMe hsrc
      obtain ⟨i54, hi54, hz54, hs54, hb54⟩ := info_parts Try.info54
      have Hi54 := hide hi54
      have Hz54 := hide hz54
      clear hi54 hz54 hs54 hb54
      go_wp2_with (first
        | ((with_reducible refine aw_loadC Try.agg54 rfl hsk H64.out ?_))
        | ((with_reducible refine aw_alloc Hi54.out Hz54.out ?_); intro w5 hw5 hk5 hz5; have Hz5 := hide hz5; clear hz5)
        | ((with_reducible refine aw_store Try.agg54 rfl rfl H64.out HL1.out hw5 (by simp [Value.cells]) ?_); intro w6 hw6 hk6 hz6; rw [put_whole _ _ (by rw [H64.out]; simp [Value.cells])] at hw6; have Hz6 := hide hz6; clear hz6))
      have hkk : Kept (fun _ => False) wr w6 := hk5.trans hk6 (fun i hi h => by omega)
      have h6 := h4.more hkk wr.heap.size M 54 hw6 (Nat.le_refl _)
      have hok := stL_ok n Ls k
      refine (h6.write n 1 64 wr.heap.size 0 M M 54 (by simp) (by rw [List.drop_zero]; exact List.take_of_length_le (by rw [H64.out]; decide)) (by rw [H64.out]) (by rw [HMe.out]; exact HLb.out k) (by decide) (by omega) hok.1 (by rw [hok.2.1]; decide) (by rw [hok.2.2.1]; omega) (by rw [hok.2.2.2.1]; omega)).mono ?_
      rintro e w7 ⟨rfl, h7⟩
      have hs8 : (stL n Ls k).written n M 1 = stL n Ls (k + 1) := by rw [HMe.out]; rfl
      rw [hs8] at h7
      clear h4 h6 hw5 hk5 hw6 hk6 hkk hok hs8 hsk
      go_wp2_with (with_reducible refine stop_append 28 ?_)
      refine hide ?_
      have h8 := h7.more (Kept.alloc (fun _ => False) w7 (.cells #[] 5)) w7.heap.size [] 5 (Blk.newA w7 #[] 5) (Nat.le_refl _)
      have hcs := (h8.blk (wr.heap.size, M, 54) (by simp)).cells 0 64
      rw [List.drop_zero, List.take_of_length_le (by rw [H64.out]; decide)] at hcs
      obtain ⟨g', cap', cur', w9, hrun, hb9, hc9, hk9, hg9, hcp9, hcl9⟩ := append_bytes _ w7.heap.size wr.heap.size 0 64 M (h8.blk (w7.heap.size, [], 5) (by simp)) hcs H64.out (by rw [HMe.out]; exact HLb.out k) 28
      refine wpList_run rfl (r_append28 rfl rfl hrun) ?_
      have h9 := h8.more hk9 g' cur' 5 hb9 hg9
      have h10 : Dv w w9 d 6 (stL n Ls (k + 1)) [(g', cur', 5)] := ⟨by
        obtain ⟨F, f1, f2, f3⟩ := h9.dev
        exact ⟨F, f1, f2, fun x hx => f3 x (by simp at hx; simp [hx])⟩, h9.kept, fun x hx => h9.blk x (by simp at hx; simp [hx])⟩
      have HC9 : Hid (cur'.take 64 = lastL Ls (k + 1)) := hide (by rw [hc9, HMe.out]; rfl)
      clear h7 h8 h9 hcs hrun hb9 hc9 hk9 hg9 hcl9
      go_wp2
      go_roundw
      case rel => exact ⟨k + 1, g', cap', cur', by omega, by go_num, rfl, HC9.out, hcp9, h10⟩
      case measure => simp [intOf]; omega
    · obtain rfl : len = k := by omega
      have hok := stL_ok n Ls len
      have hvw := stL_view n Ls hn HLs.out len
      have hfl := stL_flushed n Ls len
      have HOk := hide hok
      have HVw := hide hvw
      have HFl := hide hfl
      clear hok hvw hfl
      go_wp2_with fail
      refine (h4.read n 1 HOk.out.1 (by omega)).mono ?_
      rintro e w7 ⟨gx, rfl, h7⟩
      rw [HVw.out.2] at h7
      go_wp2_with fail
      refine (h7.flush (by rw [HOk.out.2.2.1]; omega)).mono ?_
      rintro e w8 ⟨he, h8⟩
      obtain rfl : e = .returned (.int .i64 0) := he.trans (by rw [HFl.out.2.2.2])
      clear he h7 h4
      go_wp2_with fail
      have hl64 : (lastL Ls len).length = 64 := by
        cases len with
        | zero => simp [lastL]
        | succ k => exact HLs.out k
      have hlb : ∀ v ∈ lastL Ls len, isByte v := by
        cases len with
        | zero => intro v hv; rw [List.eq_of_mem_replicate hv]; exact isByte.zero
        | succ k => exact HLb.out k
      have HXc : ((lastL Ls len).drop 0).take 64 = lastL Ls len := by rw [List.drop_zero]; exact List.take_of_length_le (by omega)
      have HLc : (cur.drop 0).take 64 = lastL Ls len := by rw [List.drop_zero]; exact HCur.out
      have HFst : (((stL n Ls len).flushed.st).drop (64 * n)).take 64 = lastL Ls len := by rw [HFl.out.1]; exact HVw.out.2
      have HFws := HFl.out.2.1
      have HFcl := HFl.out.2.2.1
      refine abs6 (p := fun a => Code.wp Try.prog _ _ a _) 0 5 7 8 11 13 86 (v0 := .slice ao len cap) (v1 := .pointer (some ⟨d, 0, none⟩)) (v2 := .int .i64 n) (v3 := .slice (some ⟨gl, 0, none⟩) 64 cp) (v4 := .slice (some ⟨gx, 0, none⟩) 64 64) (v5 := .int .i64 0) rfl rfl rfl rfl rfl rfl rfl rfl ?_
      intro a' e0 e5 e7 e8 e11 e13 hts hdf
      refine region_held (S := fun U => Blk U gx (lastL Ls len) 5 ∧ Blk U gl cur 5) Try.mixed ?_
      intro w9 hk9 hheap
      have h9 := h8.same hk9
      have hS : Blk w9 gx (lastL Ls len) 5 ∧ Blk w9 gl cur 5 := ⟨h9.blk (gx, lastL Ls len, 5) (by simp), h9.blk (gl, cur, 5) (by simp)⟩
      refine tk 0 (v := (.slice (some ⟨gx, 0, none⟩) 64 64)) rfl (by kernel_rfl) (by kernel_rfl) (by kernel_rfl) (wanted_none rfl) (fun _ _ _ h => h) hS (fun U hU => r_move (by simp [eval_put_ne, eval_put_eq, size_put, hts, e11])) ?_
      refine tk 1 (v := (.string (strV (lastL Ls len)))) rfl (by kernel_rfl) (by kernel_rfl) (by kernel_rfl) (wanted_none rfl) (fun _ _ _ h => h) hS (fun U hU => r_str (b := gx) (so := 0) (len := 64) (cap := 64) (by simp [eval_put_ne, eval_put_eq, size_put, hts]) (HXc ▸ hU.1.cells 0 64) hl64 hlb) ?_
      refine tk 2 (v := (.slice (some ⟨gl, 0, none⟩) 64 cp)) rfl (by kernel_rfl) (by kernel_rfl) (by kernel_rfl) (wanted_none rfl) (fun _ _ _ h => h) hS (fun U hU => r_move (by simp [eval_put_ne, eval_put_eq, size_put, hts, e8])) ?_
      refine tk 3 (v := (.string (strV (lastL Ls len)))) rfl (by kernel_rfl) (by kernel_rfl) (by kernel_rfl) (wanted_none rfl) (fun _ _ _ h => h) hS (fun U hU => r_str (b := gl) (so := 0) (len := 64) (cap := cp) (by simp [eval_put_ne, eval_put_eq, size_put, hts]) (HLc ▸ hU.2.cells 0 64) hl64 hlb) ?_
      refine tk 4 (v := (.bool true)) rfl (by kernel_rfl) (by kernel_rfl) (by kernel_rfl) (wanted_none rfl) (fun _ _ _ h => h) hS (fun U hU => r_eql9 (s := strV (lastL Ls len)) (by simp [eval_put_ne, eval_put_eq, size_put, hts]) (by simp [eval_put_ne, eval_put_eq, size_put, hts])) ?_
      refine tk 5 (v := (.bool true)) rfl (by kernel_rfl) (by kernel_rfl) (by kernel_rfl) (wanted_none rfl) (fun _ _ _ h => h) hS (fun U hU => r_move (by simp [eval_put_ne, eval_put_eq, size_put, hts])) ?_
      refine tk 6 (v := (.int .i64 0)) rfl (by kernel_rfl) (by kernel_rfl) (by kernel_rfl) (wanted_some (j := 5) (d := 55) (bb := true) rfl rfl rfl (by simp [eval_put_ne, eval_put_eq, size_put, hts]) (by simp [size_put, hts])) (fun _ _ _ h => h) hS (fun U hU => r_move (by simp [eval_put_ne, eval_put_eq, size_put, hts, e13])) ?_
      refine tk 7 (v := (.bool true)) rfl (by kernel_rfl) (by kernel_rfl) (by kernel_rfl) (wanted_some (j := 5) (d := 55) (bb := true) rfl rfl rfl (by simp [eval_put_ne, eval_put_eq, size_put, hts]) (by simp [size_put, hts])) (fun _ _ _ h => h) hS (fun U hU => r_eql25 (i := 0) (by simp [eval_put_ne, eval_put_eq, size_put, hts]) rfl) ?_
      refine tk 8 (v := (.bool true)) rfl (by kernel_rfl) (by kernel_rfl) (by kernel_rfl) (wanted_none rfl) (fun _ _ _ h => h) hS (fun U hU => r_pick (by simp [eval_put_ne, eval_put_eq, size_put, hts]) (by simp [eval_put_ne, eval_put_eq, size_put, hts])) ?_
      refine tk 9 (v := (.bool true)) rfl (by kernel_rfl) (by kernel_rfl) (by kernel_rfl) (wanted_none rfl) (fun _ _ _ h => h) hS (fun U hU => r_move (by simp [eval_put_ne, eval_put_eq, size_put, hts])) ?_
      refine tk 10 (v := (.pointer (some ⟨d, 0, none⟩))) rfl (by kernel_rfl) (by kernel_rfl) (by kernel_rfl) (wanted_some (j := 9) (d := 59) (bb := true) rfl rfl rfl (by simp [eval_put_ne, eval_put_eq, size_put, hts]) (by simp [size_put, hts])) (fun _ _ _ h => h) hS (fun U hU => r_move (by simp [eval_put_ne, eval_put_eq, size_put, hts, e5])) ?_
      refine tk 12 (v := (.int .i64 (n : Int))) rfl (by kernel_rfl) (by kernel_rfl) (by kernel_rfl) (wanted_some (j := 9) (d := 59) (bb := true) rfl rfl rfl (by simp [eval_put_ne, eval_put_eq, size_put, hts]) (by simp [size_put, hts])) (fun _ _ _ h => h) hS (fun U hU => r_move (by simp [eval_put_ne, eval_put_eq, size_put, hts, e7])) ?_
      refine tk 13 (v := (.int .i64 ((64 * n : Nat) : Int))) rfl (by kernel_rfl) (by kernel_rfl) (by kernel_rfl) (wanted_some (j := 9) (d := 59) (bb := true) rfl rfl rfl (by simp [eval_put_ne, eval_put_eq, size_put, hts]) (by simp [size_put, hts])) (fun _ _ _ h => h) hS (fun U hU => r_mul64 (i := n) rfl (by simp [eval_put_ne, eval_put_eq, size_put, hts]) (by omega)) ?_
      refine tk 14 (v := (.int .i64 (n : Int))) rfl (by kernel_rfl) (by kernel_rfl) (by kernel_rfl) (wanted_some (j := 9) (d := 59) (bb := true) rfl rfl rfl (by simp [eval_put_ne, eval_put_eq, size_put, hts]) (by simp [size_put, hts])) (fun _ _ _ h => h) hS (fun U hU => r_move (by simp [eval_put_ne, eval_put_eq, size_put, hts, e7])) ?_
      refine tk 15 (v := (.int .i64 ((64 * n : Nat) : Int))) rfl (by kernel_rfl) (by kernel_rfl) (by kernel_rfl) (wanted_some (j := 9) (d := 59) (bb := true) rfl rfl rfl (by simp [eval_put_ne, eval_put_eq, size_put, hts]) (by simp [size_put, hts])) (fun _ _ _ h => h) hS (fun U hU => r_mul64 (i := n) rfl (by simp [eval_put_ne, eval_put_eq, size_put, hts]) (by omega)) ?_
      refine tk 16 (v := (.int .i64 ((64 * n + 64 : Nat) : Int))) rfl (by kernel_rfl) (by kernel_rfl) (by kernel_rfl) (wanted_some (j := 9) (d := 59) (bb := true) rfl rfl rfl (by simp [eval_put_ne, eval_put_eq, size_put, hts]) (by simp [size_put, hts])) (fun _ _ _ h => h) hS (fun U hU => r_add (i := 64 * n) (j := 64) (by simp [eval_put_ne, eval_put_eq, size_put, hts]) rfl (by omega)) ?_
      refine tk 19 (v := (.slice (some ⟨gl, 0, none⟩) 64 cp)) rfl (by kernel_rfl) (by kernel_rfl) (by kernel_rfl) (wanted_some (j := 9) (d := 59) (bb := true) rfl rfl rfl (by simp [eval_put_ne, eval_put_eq, size_put, hts]) (by simp [size_put, hts])) (fun _ _ _ h => h) hS (fun U hU => r_move (by simp [eval_put_ne, eval_put_eq, size_put, hts, e8])) ?_
      refine tk 20 (v := (.string (strV (lastL Ls len)))) rfl (by kernel_rfl) (by kernel_rfl) (by kernel_rfl) (wanted_some (j := 9) (d := 59) (bb := true) rfl rfl rfl (by simp [eval_put_ne, eval_put_eq, size_put, hts]) (by simp [size_put, hts])) (fun _ _ _ h => h) hS (fun U hU => r_str (b := gl) (so := 0) (len := 64) (cap := cp) (by simp [eval_put_ne, eval_put_eq, size_put, hts]) (HLc ▸ hU.2.cells 0 64) hl64 hlb) ?_
      refine clW 11 rfl (by kernel_rfl) (wanted_some (j := 9) (d := 59) (bb := true) rfl rfl rfl (by simp [eval_put_ne, eval_put_eq, size_put, hts]) (by simp [size_put, hts])) (r_call1 Try.func17 (by kernel_rfl) rfl rfl (by simp [eval_put_ne, eval_put_eq, size_put, hts])) h9.image ?_
      rintro e w10 ⟨g, rfl, h10⟩
      have hS1 : Blk w10 gx (lastL Ls len) 5 ∧ Blk w10 gl cur 5 := ⟨h10.blk (gx, lastL Ls len, 5) (by simp), h10.blk (gl, cur, 5) (by simp)⟩
      refine ⟨_, rfl, hS1, ?_⟩
      have hIc : Cells w10 g (64 * n) (lastL Ls len) := by
        have hh := (h10.blk (g, (stL n Ls len).flushed.st, 5) (by simp)).cells (64 * n) 64
        rw [HFst] at hh
        exact hh
      have HWait : Calls Try.prog 15 #[.pointer (some ⟨d, 0, none⟩)] w10 fun e w' => e = .returned (.int .i64 0) ∧ w10 = w' := h10.waiting.mono fun e w' h => ⟨h.1.trans (by rw [HFws]; rfl), h.2⟩
      have HCalls : Calls Try.prog 16 #[.pointer (some ⟨d, 0, none⟩)] w10 fun e w' => e = .returned (.int .i64 ((len + 1 : Nat) : Int)) ∧ w10 = w' := h10.calls.mono fun e w' h => ⟨h.1.trans (by rw [HFcl]), h.2⟩
      refine dn 17 (v := (.slice (some ⟨g, 0 + 64 * n, none⟩) 64 (384 - 64 * n))) rfl (by kernel_rfl) (wanted_some (j := 9) (d := 59) (bb := true) rfl rfl rfl (by simp [eval_put_ne, eval_put_eq, size_put, hts]) (by simp [size_put, hts])) ((r_slice2 (b := g) (off := 0) (len := 6 * 64) (cap := 6 * 64) (l := 64 * n) (h := 64 * n + 64) (k1 := .i64) (k2 := .i64) (by simp [eval_put_ne, eval_put_eq, size_put, hts]) (by simp [eval_put_ne, eval_put_eq, size_put, hts]) (by simp [eval_put_ne, eval_put_eq, size_put, hts]) (by omega) (by omega) (by omega)).trans (by rw [show 64 * n + 64 - 64 * n = 64 by omega])) hS1 ?_
      refine dn 18 (v := (.string (strV (lastL Ls len)))) rfl (by kernel_rfl) (wanted_some (j := 9) (d := 59) (bb := true) rfl rfl rfl (by simp [eval_put_ne, eval_put_eq, size_put, hts]) (by simp [size_put, hts])) (r_str (b := g) (so := 0 + 64 * n) (len := 64) (cap := 384 - 64 * n) (by simp [eval_put_ne, eval_put_eq, size_put, hts]) (by rw [Nat.zero_add]; exact hIc) hl64 hlb) hS1 ?_
      refine dn 21 (v := (.bool true)) rfl (by kernel_rfl) (wanted_some (j := 9) (d := 59) (bb := true) rfl rfl rfl (by simp [eval_put_ne, eval_put_eq, size_put, hts]) (by simp [size_put, hts])) (r_eql9 (s := strV (lastL Ls len)) (by simp [eval_put_ne, eval_put_eq, size_put, hts]) (by simp [eval_put_ne, eval_put_eq, size_put, hts])) hS1 ?_
      refine dn 22 (v := (.bool true)) rfl (by kernel_rfl) (wanted_none rfl) (r_pick (by simp [eval_put_ne, eval_put_eq, size_put, hts]) (by simp [eval_put_ne, eval_put_eq, size_put, hts])) hS1 ?_
      refine dn 23 (v := (.bool true)) rfl (by kernel_rfl) (wanted_none rfl) (r_move (by simp [eval_put_ne, eval_put_eq, size_put, hts])) hS1 ?_
      refine dn 24 (v := (.pointer (some ⟨d, 0, none⟩))) rfl (by kernel_rfl) (wanted_some (j := 23) (d := 73) (bb := true) rfl rfl rfl (by simp [eval_put_ne, eval_put_eq, size_put, hts]) (by simp [size_put, hts])) (r_move (by simp [eval_put_ne, eval_put_eq, size_put, hts, e5])) hS1 ?_
      refine cl 25 (v := (.int .i64 0)) rfl (by kernel_rfl) (wanted_some (j := 23) (d := 73) (bb := true) rfl rfl rfl (by simp [eval_put_ne, eval_put_eq, size_put, hts]) (by simp [size_put, hts])) (r_call1 Try.func15 (by kernel_rfl) rfl rfl (by simp [eval_put_ne, eval_put_eq, size_put, hts])) HWait hS1 ?_
      refine dn 26 (v := (.bool true)) rfl (by kernel_rfl) (wanted_some (j := 23) (d := 73) (bb := true) rfl rfl rfl (by simp [eval_put_ne, eval_put_eq, size_put, hts]) (by simp [size_put, hts])) (r_eql3 (i := 0) (by simp [eval_put_ne, eval_put_eq, size_put, hts]) rfl) hS1 ?_
      refine dn 27 (v := (.bool true)) rfl (by kernel_rfl) (wanted_none rfl) (r_pick (by simp [eval_put_ne, eval_put_eq, size_put, hts]) (by simp [eval_put_ne, eval_put_eq, size_put, hts])) hS1 ?_
      refine dn 28 (v := (.bool true)) rfl (by kernel_rfl) (wanted_none rfl) (r_move (by simp [eval_put_ne, eval_put_eq, size_put, hts])) hS1 ?_
      refine tk 29 (v := (.pointer (some ⟨d, 0, none⟩))) rfl (by kernel_rfl) (by kernel_rfl) (by kernel_rfl) (wanted_some (j := 28) (d := 78) (bb := true) rfl rfl rfl (by simp [eval_put_ne, eval_put_eq, size_put, hts]) (by simp [size_put, hts])) (fun _ _ _ h => h) hS1 (fun U hU => r_move (by simp [eval_put_ne, eval_put_eq, size_put, hts, e5])) ?_
      refine tk 31 (v := (.slice ao len cap)) rfl (by kernel_rfl) (by kernel_rfl) (by kernel_rfl) (wanted_some (j := 28) (d := 78) (bb := true) rfl rfl rfl (by simp [eval_put_ne, eval_put_eq, size_put, hts]) (by simp [size_put, hts])) (fun _ _ _ h => h) hS1 (fun U hU => r_move (by simp [eval_put_ne, eval_put_eq, size_put, hts, e0])) ?_
      refine tk 32 (v := (.int .i64 (len : Int))) rfl (by kernel_rfl) (by kernel_rfl) (by kernel_rfl) (wanted_some (j := 28) (d := 78) (bb := true) rfl rfl rfl (by simp [eval_put_ne, eval_put_eq, size_put, hts]) (by simp [size_put, hts])) (fun _ _ _ h => h) hS1 (fun U hU => r_len56 (ao := ao) (c := cap) (by simp [eval_put_ne, eval_put_eq, size_put, hts])) ?_
      refine tk 33 (v := (.int .i64 ((len + 1 : Nat) : Int))) rfl (by kernel_rfl) (by kernel_rfl) (by kernel_rfl) (wanted_some (j := 28) (d := 78) (bb := true) rfl rfl rfl (by simp [eval_put_ne, eval_put_eq, size_put, hts]) (by simp [size_put, hts])) (fun _ _ _ h => h) hS1 (fun U hU => r_add (i := len) (j := 1) (by simp [eval_put_ne, eval_put_eq, size_put, hts]) rfl (by omega)) ?_
      refine cl 30 (v := (.int .i64 ((len + 1 : Nat) : Int))) rfl (by kernel_rfl) (wanted_some (j := 28) (d := 78) (bb := true) rfl rfl rfl (by simp [eval_put_ne, eval_put_eq, size_put, hts]) (by simp [size_put, hts])) (r_call1 Try.func16 (by kernel_rfl) rfl rfl (by simp [eval_put_ne, eval_put_eq, size_put, hts])) HCalls hS1 ?_
      refine dn 34 (v := (.bool true)) rfl (by kernel_rfl) (wanted_some (j := 28) (d := 78) (bb := true) rfl rfl rfl (by simp [eval_put_ne, eval_put_eq, size_put, hts]) (by simp [size_put, hts])) (r_eql3 (i := ((len + 1 : Nat) : Int)) (by simp [eval_put_ne, eval_put_eq, size_put, hts]) (by simp [eval_put_ne, eval_put_eq, size_put, hts])) hS1 ?_
      refine dn 35 (v := (.bool true)) rfl (by kernel_rfl) (wanted_none rfl) (r_pick (by simp [eval_put_ne, eval_put_eq, size_put, hts]) (by simp [eval_put_ne, eval_put_eq, size_put, hts])) hS1 ?_
      refine dn 36 (v := (.bool true)) rfl (by kernel_rfl) (wanted_none rfl) (r_assign (by simp [eval_put_ne, eval_put_eq, size_put, hts])) hS1 ?_
      refine wpAnyH_done (by kernel_rfl) ?_ _
      have hkfin := h10.kept
      refine abs1 (p := fun a => Exit.then _ _ .normal a _) 4 86 (v := .bool true) (ds := []) (by simp [eval_put_ne, eval_put_eq, size_put, hts]) (by simp [size_put, hts]) (by simp [put_defers, hdf]) ?_
      intro a6 e6 ht6 hd6
      clear h8 h9 h10 hS hS1 hIc HWait HCalls hheap e0 e5 e7 e8 e11 e13
      go_wp2
      refine bodyPost_ret (v := .bool true) ?_ hd6 ⟨rfl, hkfin⟩
      rw [results_tmp (t := 4) rfl]
      exact congrArg (fun v => Result.ok v _) e6

end Go.Proofs.Ytjepiaacaemkhaa
