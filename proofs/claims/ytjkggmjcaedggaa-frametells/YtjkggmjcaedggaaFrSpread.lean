/-
  Sectors, Spread.
-/
import Derived.Test.YtjkggmjcaedggaaFrGet
namespace Go.Proofs.Ytjkggmjcaedggaa
open Go.RowKit Go.Shelf
set_option linter.unusedSimpArgs false
set_option linter.unusedVariables false

section
variable {P : Program} {ops : Array Oper} {Q : Exit → Act → World → Prop} {a : Act} {w : World} {rest : List Oper} {dst : Option Tmp} {ty : TypeId} {pos : String} {aft : Array Edge} {x y z : Operand}
theorem stop_min (h : Hid (wpList P ops Q (⟨dst, .call { callee := .builtin .min, args := #[x, y], argTypes := #[3, 3] }, ty, pos, aft, none⟩ :: rest) a w)) : wpList P ops Q (⟨dst, .call { callee := .builtin .min, args := #[x, y], argTypes := #[3, 3] }, ty, pos, aft, none⟩ :: rest) a w := h.out
end
section
variable {ρ : Operand → Value} {w : World} {dst : Option Tmp} {ty : TypeId} {pos : String} {aft : Array Edge} {gd : Option (Nat × Bool)} {x y z : Operand}
theorem r_min3 {p q r : Int} (hx : ρ x = .int .i64 p) (hy : ρ y = .int .i64 q) (hr : min p q = r) : (execOp ρ ⟨dst, .call { callee := .builtin .min, args := #[x, y], argTypes := #[3, 3] }, ty, pos, aft, gd⟩).run Try.prog w = .ok (.value (.int .i64 r)) w := by
  subst hr
  by_cases h : p < q
  · go_simp
    omega
  · go_simp
    omega
theorem r_mid0 {bo : Option Addr} {cap : Nat} {k j : IntKind} (hn : bo = none → cap = 0) (hx : ρ x = .slice bo 0 cap) (hy : ρ y = .int k 0) (hz : ρ z = .int j 0) :
    (execOp ρ ⟨dst, .slice 22 x (some y) (some z) none, ty, pos, aft, gd⟩).run Try.prog w = .ok (.value (.slice bo 0 cap)) w := by
  obtain ⟨i5, hi5, hz5, hs5, hb5⟩ := info_parts Try.info5
  cases bo with
  | none =>
    obtain rfl := hn rfl
    simp [execOp, Instr.sliceAt, run_underlying Try.underlying22, Instr.slice, hx, hy, hz, Instr.sliceBounds, Instr.sliceBound, asIntOf, sizeOf, typeInfo, hi5, hs5]
  | some ad =>
    by_cases hc : cap = 0
    · subst hc
      simp [execOp, Instr.sliceAt, run_underlying Try.underlying22, Instr.slice, hx, hy, hz, Instr.sliceBounds, Instr.sliceBound, asIntOf, sizeOf, typeInfo, hi5, hs5]
    · simp [execOp, Instr.sliceAt, run_underlying Try.underlying22, Instr.slice, hx, hy, hz, Instr.sliceBounds, Instr.sliceBound, asIntOf, sizeOf, typeInfo, hi5, hs5, hc, Addr.add]
end
/-- A slice from l to h, of any slice. -/
theorem aw_midG {ops : Array Oper} {Q : Exit → Act → World → Prop} {a : Act} {rest : List Oper} {w : World} {dst : Option Tmp} {ty : TypeId} {pos : String} {aft : Array Edge} {x y z : Operand} {bo : Option Addr} {len cap : Nat} {B : List Nat} (l h : Nat) {k j : IntKind} (hx : a.eval x = .slice bo len cap) (hy : a.eval y = .int k l) (hz : a.eval z = .int j h) (hB : B.length = len) (hs : Src w (.slice bo len cap) B) (hl : l ≤ h) (hh : h ≤ len)
    (hn : ∀ bo', Src w (.slice bo' (h - l) (cap - l)) ((B.drop l).take (h - l)) → wpList Try.prog ops Q rest (a.put dst (.slice bo' (h - l) (cap - l))) w) : wpList Try.prog ops Q (⟨dst, .slice 22 x (some y) (some z) none, ty, pos, aft, none⟩ :: rest) a w := by
  by_cases h0 : 0 < len
  · obtain ⟨bo', c, e, h1, h2, h3, h4⟩ := hs
    cases e
    obtain ⟨sb, so, rfl, hc⟩ := h3 (by omega)
    exact aw_mid25 (B := B) l h hx hy hz hB ⟨_, _, by rw [hB], h1, h2, fun _ => ⟨sb, so, rfl, hc⟩, h4⟩ hl hh (fun so' hs' => hn _ hs')
  · obtain rfl : h = 0 := by omega
    obtain rfl : l = 0 := by omega
    obtain rfl : len = 0 := by omega
    obtain rfl : B = [] := List.eq_nil_of_length_eq_zero hB
    have hs' := hs
    obtain ⟨bo', c, e, h1, h2, h3, h4⟩ := hs
    cases e
    refine wpList_run rfl (r_mid0 h4 hx hy hz) ?_
    have := hn bo (by simpa using hs')
    simpa using this

set_option maxHeartbeats 1000000 in
theorem sectors_at (w : World) (n : Nat) (hn : n ≤ 2621400) : Calls Try.prog 17 #[.int .i64 n] w fun e w' => e = .returned (.int .i64 (sectN n : Nat)) ∧ w = w' := by
  obtain ⟨d, hd⟩ : ∃ d, d = (n + 39) / 40 := ⟨_, rfl⟩
  have hd1 : ((n : Int) + 40 - 1) / 40 = d := by omega
  have hd2 : ((n : Int) + 40 - 1).tdiv 40 = d := by rw [Int.tdiv_eq_ediv_of_nonneg (by omega)]; exact hd1
  have hd3 : ((n : Int) + 39) / 40 = d := by omega
  have hd4 : ((n : Int) + 39).tdiv 40 = d := by rw [Int.tdiv_eq_ediv_of_nonneg (by omega)]; exact hd3
  have Hs : Hid (sectN n = max 1 d) := hide (by unfold sectN; rw [hd])
  have hdl : d ≤ 65535 := by omega
  have HW := hide (within_at w n 2621400 true (by simp; omega))
  clear hd
  obtain ⟨c, hc⟩ : ∃ c, c = sectN n := ⟨_, rfl⟩
  rw [← hc] at Hs ⊢
  clear hc
  go_enter Try.func17, Try.ntmps17
  go_wp2_with fail
  refine HW.out.mono ?_
  rintro e w1 ⟨rfl, rfl⟩
  by_cases h1 : 1 ≤ d
  · have h1' : ¬ (d : Int) < 1 := by omega
    go_wp2 <;> (go_ret; refine ⟨?_, rfl⟩; have := Hs.out; simp; omega)
  · have h1' : (d : Int) < 1 := by omega
    go_wp2 <;> (go_ret; refine ⟨?_, rfl⟩; have := Hs.out; simp; omega)

theorem flat_snoc (lsn : Int) (ep : Nat → Int) (body : List Nat) (k : Nat) : (((List.range (k + 1)).map (fun i => putN (frameAt lsn (ep i) body i))).flatten) = ((List.range k).map (fun i => putN (frameAt lsn (ep i) body i))).flatten ++ putN (frameAt lsn (ep k) body k) := by
  rw [List.range_succ, List.map_append, List.flatten_append]
  simp
theorem flat_k (lsn : Int) (ep : Nat → Int) (body : List Nat) (k : Nat) : (((List.range k).map (fun i => putN (frameAt lsn (ep i) body i))).flatten).length = 64 * k := by
  rw [flat_len]
  · simp
  · intro x hx
    simp only [List.mem_map] at hx
    obtain ⟨i, _, rfl⟩ := hx
    exact putN_length _ (by simp [frameAt]; omega)
theorem Own.base {w : World} {base : Nat} {v : Value} {A : List Nat} (h : Own w base v A) : ∀ k, v.ownBlock = some k → base ≤ k := fun k hk => (h.1.lt k hk).1
theorem Own.slice {w : World} {base : Nat} {v : Value} {A : List Nat} (h : Own w base v A) : ∃ bo cap, v = .slice bo A.length cap := h.src.slice

set_option maxRecDepth 100000 in
set_option maxHeartbeats 4000000 in
theorem spread_at (w : World) (lsn ep : Int) (vb : Value) (body : List Nat) (hs : Src w vb body) (hl : LsnOk lsn body.length) (hep : 0 ≤ ep ∧ ep ≤ 4294967295) :
    Calls Try.prog 14 #[.int .i64 lsn, .int .i64 ep, vb] w fun e w' => ∃ v, e = .returned v ∧ Own w' w.heap.size v (sectorsOf lsn (fun _ => ep) body).flatten ∧ Kept (fun _ => False) w w' := by
  have hl1 := hl.1
  have hl2 := hl.2.1
  have hl3 := hl.2.2
  have hb := sectN_bounds hl.2.2
  have HSec := hide (sectors_at w body.length hl.2.2)
  have hsec : sectorsOf lsn (fun _ => ep) body = (List.range (sectN body.length)).map (fun i => putN (frameAt lsn ep body i)) := rfl
  rw [hsec]
  clear hsec
  obtain ⟨fs, hfs⟩ : ∃ fs : Nat → List Nat, fs = fun k => ((List.range k).map (fun i => putN (frameAt lsn ep body i))).flatten := ⟨_, rfl⟩
  have hf0 : fs 0 = [] := by rw [hfs]; rfl
  have hfl : ∀ k, (fs k).length = 64 * k := fun k => by rw [hfs]; exact flat_k lsn (fun _ => ep) body k
  have hfn : ∀ k, fs (k + 1) = fs k ++ putN (frameAt lsn ep body k) := fun k => by rw [hfs]; exact flat_snoc lsn (fun _ => ep) body k
  have hput : ∀ (k : Nat) (w1 : World) (bo : Option Addr) (h c : Nat), Kept (fun _ => False) w w1 → k < sectN body.length → h = min (40 * k + 40) body.length → Src w1 (.slice bo (h - 40 * k) c) ((body.drop (40 * k)).take (h - 40 * k)) →
      Calls Try.prog 12 #[.agg #[.int .i64 (lsn + k), .int .i64 ep, .int .i64 k, .int .i64 (sectN body.length : Nat), .slice bo (h - 40 * k) c]] w1 fun e w' => ∃ g, e = .returned (.slice (some ⟨g, 0, none⟩) 64 64) ∧ Src w' (.slice (some ⟨g, 0, none⟩) 64 64) (putN (frameAt lsn ep body k)) ∧ Kept (fun _ => False) w1 w' := by
    intro k w1 bo h c hk1 hk hh hs1
    have e1 : (body.drop (40 * k)).take (h - 40 * k) = (frameAt lsn ep body k).B := by
      show _ = (body.drop (40 * k)).take 40
      rw [List.take_eq_take_iff]
      simp
      omega
    rw [e1] at hs1
    refine (put_at w1 (frameAt lsn ep body k) (.slice bo (h - 40 * k) c) hs1 (frameAt_right hl hep hk)).mono ?_
    rintro e w2 ⟨g, rfl, hb2, hg2, hk2⟩
    refine ⟨g, rfl, ?_, hk2⟩
    have hpl : (putN (frameAt lsn ep body k)).length = 64 := putN_length _ (by simp [frameAt]; omega)
    have := hb2.src (B := putN (frameAt lsn ep body k)) (cap := 64) (by rw [hpl, List.take_of_length_le (by rw [BV_length, hpl]; exact Nat.le_refl _)]) (putN_lt _ (by simp [frameAt]; omega) (frameAt_B hs.lt)) (by rw [hpl]; exact Nat.le_refl _)
    rw [hpl] at this
    exact this
  have hfin : ((List.range (sectN body.length)).map (fun i => putN (frameAt lsn ep body i))).flatten = fs (sectN body.length) := by rw [hfs]
  rw [hfin]
  clear hfin hfs
  have HS := hide hs
  obtain ⟨bo, cap, rfl⟩ := hs.slice
  have Hput := hide hput
  have Hf0 := hide hf0
  have Hfl := hide hfl
  have Hfn := hide hfn
  obtain ⟨c, hc⟩ : ∃ c, c = sectN body.length := ⟨_, rfl⟩
  rw [← hc] at HSec hl2 hb Hput ⊢
  obtain ⟨len, hlen⟩ : ∃ len, len = body.length := ⟨_, rfl⟩
  rw [← hlen] at HSec hl3 hb Hput HS ⊢
  have Hlen := hide hlen
  clear hput hf0 hfl hfn hs hl hc hlen
  obtain ⟨hc1, hc2, hc3, hc4⟩ := hb
  go_enter Try.func14, Try.ntmps14
  go_wp2_with fail
  refine HSec.out.mono ?_
  rintro e w1 ⟨rfl, rfl⟩
  go_wp2
  go_loopw [8, 16] (fun o i wr => ∃ (k : Nat) (oa : Option Addr) (oc : Nat), i = .int .i64 k ∧ k ≤ c ∧ o = .slice oa (64 * k) oc ∧ Hid (Own wr w.heap.size o (fs k)) ∧ Hid (Kept (fun _ => False) w wr)) (fun _ i _ => c - (intOf i).toNat)
  case atStart => exact ⟨0, none, 0, rfl, Nat.zero_le _, rfl, hide (by rw [Hf0.out]; exact Own.nil _ _), hide (Kept.refl _ _)⟩
  case round =>
    obtain ⟨k, oa, oc, rfl, hk, rfl, hO, hK⟩ := hrel
    by_cases hlt : k < c
    · go_wp2_with (with_reducible refine stop_min ?_)
      refine hide ?_
      obtain ⟨h, hh⟩ : ∃ h, h = min (40 * k + 40) len := ⟨_, rfl⟩
      have hkl : 40 * k ≤ len := by omega
      refine wpList_run rfl (r_min3 (r := (h : Nat)) rfl rfl (by omega)) ?_
      have Hh := hide hh
      have hh1 : 40 * k ≤ h := by omega
      have hh2 : h ≤ len := by omega
      clear hh
      go_wp2_with (with_reducible refine stop_slice 22 ?_)
      refine hide ?_
      refine aw_midG (B := body) (k := .i64) (j := .i64) (40 * k) h rfl (by simp [Act.eval]; omega) rfl Hlen.out.symm (HS.out.kept hK.out) hh1 hh2 ?_
      intro bo2 hs2
      have HP := hide (Hput.out k wr bo2 h (cap - 40 * k) hK.out hlt Hh.out hs2)
      clear hs2
      obtain ⟨hx, hhx⟩ : ∃ hx, hx = h - 40 * k := ⟨_, rfl⟩
      obtain ⟨cx, hcx⟩ : ∃ cx, cx = cap - 40 * k := ⟨_, rfl⟩
      rw [← hhx, ← hcx] at HP ⊢
      clear hhx hcx
      go_wp2_with (with_reducible refine stop_build 24 ?_)
      refine hide ?_
      refine wpList_run rfl (r_build24 (a := lsn + k) rfl rfl rfl rfl rfl) ?_
      go_wp2_with fail
      refine HP.out.mono ?_
      rintro e w2 ⟨g, rfl, hs2, hk2⟩
      have hO2 := hO.out.kept hk2 (fun _ _ h => h)
      obtain ⟨v3, w3, hrun, hO3, hk3, hm3⟩ := append_src (ty := 22) hO2 hs2 (by rw [Hfl.out, putN_length _ (by simp [frameAt]; omega)]; omega) (by have := hK.out.size; have := hk2.size; omega)
      rw [← Hfn.out] at hO3
      obtain ⟨oa3, oc3, hv3⟩ := hO3.slice
      rw [Hfl.out] at hv3
      have HK3 := hide ((hK.out.trans hk2 (fun _ _ h => h)).trans hk3 (fun i hi h => by have := hO2.base i h; omega))
      have HO3 := hide hO3
      have HV3 := hide hv3
      have Hrun := hide hrun
      clear hO2 hs2 hrun hO3 hk3 hm3 hv3 hk2 HP
      go_wp2_with (with_reducible refine stop_append 22 ?_)
      refine hide ?_
      refine wpList_run rfl (r_append25 rfl rfl Hrun.out) ?_
      go_wp2
      go_roundw
      case rel => exact ⟨k + 1, oa3, oc3, by simp, by omega, HV3.out, HO3, HK3⟩
      case measure => simp [intOf]; omega
    · obtain rfl : c = k := by omega
      go_wp2
      go_ret
      exact ⟨_, rfl, hO.out, hK.out⟩
end Go.Proofs.Ytjkggmjcaedggaa
