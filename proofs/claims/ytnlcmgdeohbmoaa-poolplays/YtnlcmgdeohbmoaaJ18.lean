/-
  Bytes, of package image.
-/
import Derived.Test.YtnlcmgdeohbmoaaJ17
namespace Go.Proofs.Ytnlcmgdeohbmoaa
open Go.RowKit Go.Shelf
set_option linter.unusedSimpArgs false
set_option linter.unusedVariables false
set_option maxRecDepth 100000
attribute [local go_sem] Oper.semAt_some

theorem flat_blocks (B : List Nat) : ∀ n, B.length = 64 * n → (List.range n).flatMap (getB B) = B := by
  have key : ∀ k, (List.range k).flatMap (getB B) = B.take (64 * k) := by
    intro k
    induction k with
    | zero => simp
    | succ k ih =>
      rw [List.range_succ, List.flatMap_append, ih, Nat.mul_add, List.take_add]
      simp [getB]
  intro n h
  rw [key, ← h, List.take_length]
theorem flatb_len (B : List Nat) (n : Nat) (h : B.length = 64 * n) {pre post : List Nat} (hp : List.range n = pre ++ post) : (pre.flatMap (getB B)).length ≤ 64 * n := by
  have := congrArg List.length (flat_blocks B n h)
  rw [hp, List.flatMap_append, List.length_append] at this
  omega
/-- What is gathered. -/
def BI (B : List Nat) (ba : Nat) (pre : List Nat) (F : NSet) (W : World) : Prop := ∃ vo : Value, Blk W ba [vo] 41 ∧ Own W 0 vo (pre.flatMap (getB B)) ∧ F = (fun k => k = ba ∨ vo.ownBlock = some k)
theorem BI.stab (B : List Nat) (ba M : Nat) (pre : List Nat) : Stab M (fun _ => False) (BI B ba pre) := by
  refine ⟨?_, ?_⟩
  · rintro F W ⟨vo, hb, ho, rfl⟩ k (h | h)
    · rw [h]; exact hb.lt
    · exact ho.lt k h
  · rintro F W W' S ⟨vo, hb, ho, rfl⟩ hk h1 h2
    exact ⟨vo, hk.blk hb (fun h => h1 _ h (.inl rfl)), ho.kept hk (fun k h h' => h1 k h' (.inr h)), rfl⟩
theorem Own.sl {w : World} {v : Value} {A : List Nat} (h : Own w 0 v A) : ∃ s : Sl, v = .slice s.a s.n s.c := by
  obtain ⟨ao, c, e⟩ := ownsRow_slice h.1
  exact ⟨⟨ao, _, c⟩, e⟩

set_option maxRecDepth 100000 in
set_option maxHeartbeats 4000000 in
theorem bytes_at (w : World) (d : Value) (n : Nat) (B : List Nat) (h : DkAt w d n B) : Calls Try.prog 22 #[d] w fun e w' => ∃ s : Sl, e = .returned (.slice s.a s.n s.c) ∧ OwnN w.heap.size w' s B ∧ Kept (fun _ => False) w w' := by
  obtain ⟨X, hX⟩ := h.l
  have HD := hide h
  have HX := hide hX
  have hlen := h.len
  have hn64 := h.le
  have HLen := hide hlen
  obtain ⟨a0, rfl, _⟩ := h.ptr
  obtain ⟨i28, hi28, hz28, hs28, hb28⟩ := info_parts Try.info41
  have Hi28 := hide hi28
  have Hz28 := hide hz28
  have Hs28 := hide hs28
  clear h hX hlen hi28 hz28 hs28 hb28
  refine (callsIn_wide (n := 4)).1 (callsIn_of_wp_marks Try.func22 rfl trivial (wpIn_wide.2 ?_) rfl)
  simp only [Try.ntmps22, List.size_toArray, List.length_cons, List.length_nil, Nat.reduceAdd, Nat.reduceSub, Array.replicate_succ, Array.replicate_zero, List.push_toArray, List.append_toArray, List.nil_append, List.cons_append]
  go_wp2_with (first
    | ((with_reducible refine aw_alloc (t := 41) Hi28.out Hz28.out ?_); intro w1 hb1 hk1 hz1; have Hb1 := hide hb1; have Hk1 := hide hk1; have Hz1 := hide hz1; clear hb1 hk1 hz1)
    | (go_at_call 44; refine (all_at _ _ n B (HD.out.kept Hk1.out)).mono ?_; rintro e w2 ⟨e0, rfl, hb2, he0, hk2⟩; have Hb2 := hide hb2; have He0 := hide he0; have Hk2 := hide hk2; clear hb2 he0 hk2))
  have HKw2 := hide (Hk1.out.trans Hk2.out (fun _ _ h => h))
  have HX2 := hide (HX.out.kept HKw2.out (fun _ h => h.elim))
  have HS := hide (all1_ok HX2.out Hb2.out)
  have HB1 : Hid (Blk w2 w.heap.size [.slice none 0 0] 41) := hide (Hk2.out.blk Hb1.out (fun h => h))
  have hne : e0 ≠ w.heap.size := Hb2.out.ne HB1.out (by decide)
  have Hne := hide hne
  clear hne
  refine rangeFS2 (gf := 65) (lb := #[.pointer (some ⟨e0, 0, none⟩)]) rfl HS.out ?size (BI B w.heap.size) (fun _ _ _ => False) (BI.stab _ _ _) (fun _ => ⟨fun _ _ h => h.elim, fun _ _ _ _ h => h.elim⟩) (fun k => k = w.heap.size) ?F0
    ⟨.slice none 0 0, HB1.out, Own.nil _ _, by funext k; simp [Value.ownBlock]⟩
    (fun x v a' W' => ∃ (v0 v1 : Value), v = #[v0, v1] ∧ a' = { tmps := #[.pointer a0, undef, .slice none 0 0, .pointer (some ⟨w.heap.size, 0, none⟩), undef, v1, .pointer a0, .func (.func 65) #[] #[.pointer (some ⟨e0, 0, none⟩)], v0, v1, undef, undef, undef, undef], defers := [] })
    (fun _ _ _ _ _ _ _ h _ _ => h) ?assign ?body ?done ?stop
  case size =>
    rintro x v G W ⟨s, rfl, _⟩
    rfl
  case F0 =>
    rintro k rfl
    refine ⟨?_, fun h => h⟩
    rintro (h | h)
    · exact Hne.out h.symm
    · exact HX2.out.ne HB1.out (by decide) (by decide) h
  case assign =>
    rintro lp n' pre x v F G A K hI ⟨s, rfl, hE1, hE2⟩ hK
    have HKK := hide hK
    clear hK
    gi_wp2
    exact HKK.out _ A (Kept.refl _ _) ⟨_, _, rfl, rfl⟩
  case body =>
    rintro lp n' pre x post v F G a' A hxs ⟨vo, hbo, hoo, rfl⟩ hwA hF ⟨s, hv, hE1, hE2⟩ hG ⟨v0, v1, hv2, rfl⟩
    rw [hv] at hv2
    simp only [Array.mk.injEq, List.cons.injEq, and_true] at hv2
    obtain ⟨rfl, rfl⟩ := hv2
    obtain ⟨so, rfl⟩ := hoo.sl
    have c0 : A.cell? ⟨w.heap.size, 0, none⟩ = some (.slice so.a so.n so.c) := hbo.cell 0
    have hbound := flatb_len B n HLen.out hxs
    have hsl := hE1.src
    have h64 : (getB B x).length ≤ 64 := by simp [getB]; omega
    obtain ⟨v', A2, hr, ho2, hk2, hv2⟩ := append_src hoo hsl (by omega) (Nat.zero_le _) 41
    have hbo2 := hk2.blk hbo (fun h => hoo.blk_ne hbo (by decide) h)
    obtain ⟨s', rfl⟩ := ho2.sl
    have Hr := hide hr
    have Ho2 := hide ho2
    have Hk2' := hide hk2
    have Hv2 := hide hv2
    have Hbo2 := hide hbo2
    have HG := hide hG
    have HE2 := hide hE2
    clear hr ho2 hk2 hv2 hbo2 hbound hsl hG hE2 hF hxs h64 hE1
    gi_wp2_with (with_reducible refine stopi_app 41 41 ?_)
    refine hide ?_
    refine wpListIn_run rfl rfl (fun _ => by simp) (r_append25 rfl rfl Hr.out) ?_
    try simp only [put_lit, put_none, List.set_cons_succ, List.set_cons_zero]
    clear c0
    gi_wp2_with (with_reducible refine stopi_store 41 ?_)
    refine hide ?_
    refine ai_store1 (v := .slice s'.a s'.n s'.c) Hi28.out Hs28.out rfl rfl rfl rfl Hbo2.out (by simp) ?_
    intro A3 hb3 hk3 hz3
    have Hb3 := hide hb3
    have Hk3 := hide hk3
    clear hb3 hk3 hz3
    try simp only [put_lit, put_none, List.set_cons_succ, List.set_cons_zero]
    gi_wp2
    have hnb : ∀ k, s'.v.ownBlock = some k → ¬ k = w.heap.size := fun k hk e => Ho2.out.blk_ne Hbo2.out (by decide) (by rw [← e]; exact hk)
    refine ⟨fun k => k = w.heap.size ∨ s'.v.ownBlock = some k, ⟨s'.v, Hb3.out, ?_, rfl⟩, ?_, ?_⟩
    · rw [List.flatMap_append]
      have := Ho2.out.kept Hk3.out hnb
      simpa using this
    · refine (Hk2'.out.mono (T := fun k => (k = w.heap.size ∨ so.v.ownBlock = some k) ∨ G k) (fun k _ h => .inl (.inr h))).trans Hk3.out (fun k _ h => .inl (.inl h))
    · rintro k (h | h)
      · exact .inl (.inl h)
      · rcases Hv2.out with h2 | h2
        · exact .inl (.inr (by rw [← h2]; exact h))
        · rw [h2] at h; cases h; exact .inr (.inr (Nat.le_refl _))
  case done =>
    rintro D F W hD ⟨vo, hbo, hoo, rfl⟩ hF hnD hkA hP hDD
    obtain ⟨so, rfl⟩ := hoo.sl
    have c0 : W.cell? ⟨w.heap.size, 0, none⟩ = some (.slice so.a so.n so.c) := hbo.cell 0
    rw [flat_blocks B n HLen.out] at hoo
    have Hoo := hide hoo
    have HDD := hide hDD
    have HKA := hide hkA
    have HF := hide hF
    have HnD := hide hnD
    clear hbo hoo hF hnD hkA hP hDD
    go_wp2
    have hkD : Kept (fun k => k = D) W (W.putObj D (.deferred none)) := Kept.putObj _ _ _
    refine ⟨by simp, .inl ⟨_, _, rfl, run_takeDeferred HDD.out, ?_⟩⟩
    refine ⟨_, results_tmp (fn := Try.f22) (t := 2) rfl _ _ _, so, rfl, ⟨Hoo.out.kept hkD (fun k h1 h2 => HnD.out (.inr (h2 ▸ h1))), fun k hk => ?_⟩, ?_⟩
    · rcases HF.out k (.inr hk) with h | h
      · omega
      · have := HKw2.out.size; omega
    · have h1 : Kept (fun _ => False) w W := HKw2.out.trans HKA.out (fun k hk h => by
        rcases h with h | h
        · omega
        · exact h)
      exact h1.trans hkD (fun k hk h => by have := HKw2.out.size; omega)
  case stop =>
    intros
    contradiction
end Go.Proofs.Ytnlcmgdeohbmoaa

/-
  From.
-/
namespace Go.Proofs.Ytnlcmgdeohbmoaa
open Go.RowKit Go.Shelf
set_option linter.unusedSimpArgs false
set_option linter.unusedVariables false
set_option maxRecDepth 100000

/-- The bytes so far, over noughts. -/
def fromB (B : List Nat) (m k : Nat) : List Nat := B.take (64 * k) ++ List.replicate (64 * (m - k)) 0
theorem fromB_len {B : List Nat} {m k : Nat} (h : B.length = 64 * m) (hk : k ≤ m) : (fromB B m k).length = 64 * m := by simp [fromB]; omega
theorem fromB_step {B : List Nat} {m k : Nat} (h : B.length = 64 * m) (hk : k < m) : putB (fromB B m k) k (getB B k) = fromB B m (k + 1) := by
  have h1 : (B.take (64 * k)).length = 64 * k := by rw [List.length_take]; omega
  unfold putB fromB getB
  have h2 : (B.take (64 * k)).drop (64 * k + 64) = [] := List.drop_eq_nil_of_le (by omega)
  rw [List.take_left' h1, List.drop_append, h1, h2, List.nil_append, List.drop_replicate, Nat.mul_add, List.take_add]
  congr 2
  omega
theorem run_slice_mid {P : Program} {ρ : Operand → Value} {w : World} {dst : Option Tmp} {t ty elem : TypeId} {x lo hi : Operand} {pos : String} {aft : Array Edge} {gd : Option (Nat × Bool)} {i : TypeInfo} {b off len cap : Nat} {k1 k2 : IntKind}
    (ht : P.underlying t = some (.slice elem)) (hi' : P.info? elem = some i) (hsz : i.size = 1) (hx : ρ x = .slice (some ⟨b, off, none⟩) len cap) (l h : Nat) (hlo : ρ lo = .int k1 l) (hh : ρ hi = .int k2 h) (hl : l ≤ h) (hc : h ≤ cap) (h0 : l < cap) :
    (execOp ρ ⟨dst, .slice t x (some lo) (some hi) none, ty, pos, aft, gd⟩).run P w = .ok (.value (.slice (some ⟨b, off + l, none⟩) (h - l) (cap - l))) w := by
  have h2 : (0 : Int) ≤ (h : Int) ∧ (h : Int) ≤ (cap : Int) := by omega
  have h4 : (0 : Int) ≤ (l : Int) ∧ (l : Int) ≤ (h : Int) := by omega
  have h3 : ¬ cap = l := by omega
  simp [execOp, Instr.sliceAt, run_underlying ht, Instr.slice, hx, hlo, hh, Instr.sliceBounds, Instr.sliceBound, asIntOf, h2, h4, hl, hc, sizeOf, typeInfo, hi', hsz, h3, addr_add]

theorem from_bad (w : World) (v : Value) (B : List Nat) (hs : Src w v B) (hl : B.length ≤ 9223372036854775807) (h : B.length % 64 ≠ 0) : Calls Try.prog 31 #[v] w fun e w' => e = .returned (.tuple #[.pointer none, .int .i64 2]) ∧ w = w' := by
  obtain ⟨bo, c, rfl, -, -, -, -⟩ := hs
  have h2 : ((B.length : Nat) : Int) % 64 ≠ 0 := by omega
  have h3 : ((B.length : Nat) : Int).tmod 64 ≠ 0 := by rw [Int.tmod_eq_emod_of_nonneg (by omega)]; exact h2
  generalize B.length = n at *
  clear h
  go_enter Try.func31, Try.ntmps31
  go_wp2
  go_ret2
  exact ⟨rfl, rfl⟩
theorem from_no (w : World) (v : Value) (B : List Nat) (hs : Src w v B) (hl : B.length ≤ 9223372036854775807) (m : Nat) (h : B.length = 64 * m) (hm : ¬ (1 ≤ m ∧ m ≤ 64)) : Calls Try.prog 31 #[v] w fun e w' => e = .returned (.tuple #[.pointer none, .int .i64 2]) ∧ w = w' := by
  obtain ⟨bo, c, rfl, -, -, -, -⟩ := hs
  have HN := hide (new_no w m (by omega))
  have h2 : ((B.length : Nat) : Int) % 64 = 0 := by omega
  have h3 : ((B.length : Nat) : Int).tmod 64 = 0 := by rw [Int.tmod_eq_emod_of_nonneg (by omega)]; exact h2
  have h4 : ((B.length : Nat) : Int) / 64 = (m : Int) := by omega
  have h5 : ((B.length : Nat) : Int).tdiv 64 = (m : Int) := by rw [Int.tdiv_eq_ediv_of_nonneg (by omega)]; exact h4
  have h6 : IntKind.i64.wrap (m : Int) = m := by rw [IntKind.wrap_i64]; omega
  generalize B.length = n at *
  clear h hm
  go_enter Try.func31, Try.ntmps31
  go_wp2_with (go_at_call 53; refine HN.out.mono ?_; rintro e w1 ⟨rfl, rfl⟩)
  go_ret2
  exact ⟨rfl, rfl⟩
set_option maxHeartbeats 4000000 in
theorem from_ok (w : World) (v : Value) (B : List Nat) (hs : Src w v B) (m : Nat) (h : B.length = 64 * m) (hm : 1 ≤ m ∧ m ≤ 64) : Calls Try.prog 31 #[v] w fun e w' => ∃ d, e = .returned (.tuple #[d, .int .i64 0]) ∧ DkAt w' d m B ∧ Kept (fun _ => False) w w' := by
  have HS := hide hs
  have Hm := hide hm
  have HL := hide h
  have HLt := hide hs.lt
  obtain ⟨bo, c, rfl, hc0, -, hsrc, -⟩ := hs
  have Hc0 := hide hc0
  obtain ⟨sb, so, rfl, hcell⟩ := hsrc (by omega)
  have HC := hide hcell
  have HN := hide (new_in w m hm)
  have h2 : ((B.length : Nat) : Int) % 64 = 0 := by omega
  have h3 : ((B.length : Nat) : Int).tmod 64 = 0 := by rw [Int.tmod_eq_emod_of_nonneg (by omega)]; exact h2
  have h4 : ((B.length : Nat) : Int) / 64 = (m : Int) := by omega
  have h5 : ((B.length : Nat) : Int).tdiv 64 = (m : Int) := by rw [Int.tdiv_eq_ediv_of_nonneg (by omega)]; exact h4
  have h6 : IntKind.i64.wrap (m : Int) = m := by rw [IntKind.wrap_i64]; omega
  obtain ⟨n, hn⟩ : ∃ n, B.length = n := ⟨_, rfl⟩
  rw [hn] at h2 h3 h4 h5 ⊢
  have Hn := hide hn
  obtain ⟨i5, hi5, hz5, hs5, hb5⟩ := info_parts Try.info5
  have Hi5 := hide hi5
  have Hs5 := hide hs5
  clear h hm hc0 hsrc hcell hn hi5 hz5 hs5 hb5
  go_enter Try.func31, Try.ntmps31
  go_wp2_with fail
  refine HN.out.mono ?_
  rintro e w1 ⟨b, g, rfl, hk1, hb1, hg1, hB1, hG1⟩
  have c0 : w1.cell? ⟨b, 0, none⟩ = some (.slice (some ⟨g, 0, none⟩) m m) := hB1.cell 0
  have K1 := hide hk1
  have NE := hide (And.intro hb1 (And.intro hg1 (hB1.ne hG1 (by decide))))
  have B1 := hide hB1
  have G1 := hide hG1
  clear hk1 hb1 hg1 hB1 hG1 HN
  go_wp2_with fail
  clear h2 h3 h4 h5 h6
  go_loopw [26] (fun i wr => ∃ k : Nat, i = .int .i64 k ∧ k ≤ m ∧ Blk wr b [.slice (some ⟨g, 0, none⟩) m m] 118 ∧ Hid (Blk wr g (BV (fromB B m k)) 119) ∧ Kept (fun _ => False) w wr)
    (fun i _ => m - (intOf i).toNat)
  case atStart =>
    refine ⟨0, rfl, Nat.zero_le _, B1.out, hide ?_, K1.out⟩
    have := G1.out
    simpa [fromB] using this
  case round =>
    obtain ⟨k, rfl, hk, hbr, HGr, hkr⟩ := hrel
    have c0 : wr.cell? ⟨b, 0, none⟩ = some (.slice (some ⟨g, 0, none⟩) m m) := hbr.cell 0
    by_cases hlt : k < m
    · have hmI : (k : Int) < m := by omega
      go_wp2_with fail
      refine region_tail 15 Try.mixed (by kernel_rfl) ?_
      intro w5 hk5 hz5
      simp only [List.take_succ_cons, List.take_zero, List.drop_succ_cons, List.drop_zero]
      have hkr5 : Kept (fun _ => False) w w5 := hkr.trans hk5 (fun _ _ h => h)
      have hbr5 := hk5.blk hbr (fun h => h)
      have hgr5 := hide (hk5.blk HGr.out (fun h => h))
      clear c0
      have c0 : w5.cell? ⟨b, 0, none⟩ = some (.slice (some ⟨g, 0, none⟩) m m) := hbr5.cell 0
      have HB5 := hide hbr5
      have HK5 := hide hkr5
      have hw1 : IntKind.i64.wrap ((k : Int) * 64) = ((64 * k : Nat) : Int) := by rw [IntKind.wrap_i64]; have := Hm.out; omega
      have hw2 : IntKind.i64.wrap ((k : Int) + 1) = ((k + 1 : Nat) : Int) := by rw [IntKind.wrap_i64]; have := Hm.out; omega
      have hw3 : IntKind.i64.wrap (((k : Int) + 1) * 64) = ((64 * k + 64 : Nat) : Int) := by rw [IntKind.wrap_i64]; have := Hm.out; omega
      clear hbr hkr hk5 hz5 hbr5 hkr5
      still_step
      still_step
      still_step
      still_step
      still_step
      still_step
      still_step
      still_step
      still_step
      still_step
      still_step
      have HB64 := hide (show 64 * k + 64 ≤ B.length by have := HL.out; omega)
      refine wpStill_run rfl (run_slice_mid Try.underlying41 Hi5.out Hs5.out rfl (64 * k) (64 * k + 64) rfl rfl (by omega) (by have := HB64.out; have := Hc0.out; omega) (by have := HB64.out; have := Hc0.out; omega)) ?_
      rw [show 64 * k + 64 - 64 * k = 64 by omega]
      refine wpStill_run rfl (run_arr62 rfl (Nat.le_refl _)) ?_
      have hpart : Cells w5 sb (so + 64 * k) (BV (getB B k)) := by
        have := (HK5.out.cells HC.out (fun h => h)).part (64 * k) 64
        rwa [← BV_drop, ← BV_take] at this
      have HPart := hide hpart
      have HG64 := hide (getB_len HL.out hlt)
      clear hpart
      refine wpStill_run rfl (run_load_cells Try.agg119 rfl (by rw [BV_length]; exact HG64.out) HPart.out) ?_
      clear hw1 hw2 hw3
      still_step
      refine wpStill_nil ?_
      have hlen := fromB_len HL.out hk
      refine aw_store (M := BV (getB B k)) Try.agg119 rfl rfl (by rw [BV_length]; exact HG64.out) (BV_one _) hgr5.out (by rw [BV_length, hlen]; omega) ?_
      intro w6 hw6 hk6 hz6
      have hpb := put_block (C := []) hlen hlt HG64.out
      rw [List.append_nil, List.append_nil, fromB_step HL.out hlt] at hpb
      rw [hpb] at hw6
      have HW6 := hide hw6
      have hb6 := hk6.blk HB5.out NE.out.2.2
      have HB6 := hide hb6
      have hk6' : Hid (Kept (fun _ => False) w w6) := hide (HK5.out.trans hk6 (fun i hi h => by have := NE.out.2.1; omega))
      clear hw6 hk6 hz6 hlen hpb hb6 c0
      have hk64 : (k : Int) < 64 := by have := Hm.out; omega
      go_wp2
      go_roundw
      case rel => exact ⟨k + 1, by simp, by omega, HB6.out, HW6, hk6'.out⟩
      case measure => simp [intOf]; omega
    · obtain rfl : k = m := by omega
      go_wp2
      go_ret2
      refine ⟨_, rfl, .inr ⟨Hm.out.1, Hm.out.2, HL.out, HLt.out, b, g, k, [], rfl, hbr, ?_, Nat.le_refl _, by have := Hm.out; unfold maxLen; omega, by simp⟩, hkr⟩
      have := HGr.out
      rw [fromB, Nat.sub_self, Nat.mul_zero, List.replicate_zero, List.append_nil, ← HL.out, List.take_length] at this
      rw [List.append_nil]
      exact this
end Go.Proofs.Ytnlcmgdeohbmoaa
