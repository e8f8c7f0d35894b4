/-
  FrameBack, walked.
-/
import Derived.Test.YtjkggmjcaedggaaFrBackX
namespace Go.Proofs.Ytjkggmjcaedggaa
open Go.RowKit Go.Shelf
set_option linter.unusedSimpArgs false
set_option linter.unusedVariables false

section
variable {ρ : Operand → Value} {w : World} {dst : Option Tmp} {ty : TypeId} {pos : String} {aft : Array Edge} {gd : Option (Nat × Bool)} {x y : Operand}
theorem r_mul64 {p q : Nat} (hq : q = 64 * p) (hp : p ≤ 1000000) (hx : ρ x = .int .i64 64) (hy : ρ y = .int .i64 p) : (execOp ρ ⟨dst, .binOp .mul 3 x y 3, ty, pos, aft, gd⟩).run Try.prog w = .ok (.value (.int .i64 (q : Nat))) w := by
  have h1 : (64 : Int) * (p : Int) = (q : Nat) := by omega
  have h2 : (q : Int) ≤ 64000000 := by omega
  clear hq
  go_simp
  rw [IntKind.wrap_i64]
  omega
theorem r_add64 {p q : Nat} (hq : q = p + 64) (hp : p ≤ 100000000) (hx : ρ x = .int .i64 p) (hy : ρ y = .int .i64 64) : (execOp ρ ⟨dst, .binOp .add 3 x y 3, ty, pos, aft, gd⟩).run Try.prog w = .ok (.value (.int .i64 (q : Nat))) w := by
  have h1 : (p : Int) + 64 = (q : Nat) := by omega
  have h2 : (q : Int) ≤ 640000000 := by omega
  clear hq
  go_simp
  rw [IntKind.wrap_i64]
  omega
theorem r_lo22e {z : Operand} {b off len cap : Nat} (l o : Nat) {k : IntKind} (ho : off + l = o) (hx : ρ x = .slice (some ⟨b, off, none⟩) len cap) (hy : ρ y = .int k l) (hl : l ≤ len) (hc : l < cap) :
    (execOp ρ ⟨dst, .slice 22 x (some y) none none, ty, pos, aft, gd⟩).run Try.prog w = .ok (.value (.slice (some ⟨b, o, none⟩) (len - l) (cap - l))) w := by
  subst ho; exact r_lo22 l hx hy hl hc
theorem r_mid22e {z : Operand} {sb so len cap : Nat} (l h o : Nat) {k j : IntKind} (ho : so + l = o) (hx : ρ x = .slice (some ⟨sb, so, none⟩) len cap) (hy : ρ y = .int k l) (hz : ρ z = .int j h) (hl : l < h) (hh : h ≤ cap) :
    (execOp ρ ⟨dst, .slice 22 x (some y) (some z) none, ty, pos, aft, gd⟩).run Try.prog w = .ok (.value (.slice (some ⟨sb, o, none⟩) (h - l) (cap - l))) w := by
  subst ho; exact r_mid22 l h hx hy hz hl hh
end

set_option maxRecDepth 100000 in
set_option maxHeartbeats 1000000 in
theorem back_out (w : World) (l : Int) (bo : Option Addr) (len cap : Nat) (x : Int) (hl : len ≤ 9223372036854775807) (h : 1000 < len) : Calls Try.prog 4 #[.int .u32 l, .slice bo len cap, .int .u8 x] w fun e w' => e = .returned (.bool true) ∧ Kept (fun _ => False) w w' := by
  go_enter Try.func4, Try.ntmps4
  go_wp2_with fail
  refine (first_law w).mono ?_
  rintro e w1 ⟨rfl, hk1⟩
  go_wp2
  go_ret
  exact ⟨rfl, hk1⟩

set_option maxRecDepth 100000 in
set_option maxHeartbeats 4000000 in
theorem back_in (w : World) (l : Nat) (hl : l < 4294967296) (v : Value) (body : List Nat) (hv : Src w v body) (hb : body.length ≤ 1000) (x : Nat) (hx : x < 256) :
    Calls Try.prog 4 #[.int .u32 l, v, .int .u8 x] w fun e w' => e = .returned (.bool true) ∧ Kept (fun _ => False) w w' := by
  obtain ⟨i3, hi3, hz3, hs3, hb3⟩ := info_parts Try.info3
  have Hi3 := hide hi3
  have Hz3 := hide hz3
  have Hs3 := hide hs3
  have hsb := sectN_bounds (n := body.length) (by omega)
  have hL : LsnOk (l : Int) body.length := ⟨by omega, by unfold sectN; omega, by omega⟩
  have HL := hide hL
  have hlt := hv.lt
  have HLt := hide hlt
  have HV := hide hv
  obtain ⟨bo, cap, rfl⟩ := hv.slice
  obtain ⟨c, hc⟩ : ∃ c, c = sectN body.length := ⟨_, rfl⟩
  have Hc := hide hc
  rw [← hc] at hsb
  have hc1 : 1 ≤ c := hsb.1
  have hc2 : c ≤ 26 := by rw [hc]; unfold sectN; omega
  obtain ⟨la, hla⟩ : ∃ la, la = 64 * c := ⟨_, rfl⟩
  have Hla := hide hla
  have hla1 : 1 ≤ la := by omega
  have hla2 : la ≤ 1664 := by omega
  have hA : ∀ ep : Int, (sectorsOf (l : Int) (fun _ => ep) body).flatten.length = la := fun ep => by rw [flat_len _ sectorsOf_64, sectorsOf_length, hla, hc]
  obtain ⟨A3, hA3⟩ : ∃ A, A = (sectorsOf (l : Int) (fun _ => 3) body).flatten := ⟨_, rfl⟩
  obtain ⟨A4, hA4⟩ : ∃ A, A = (sectorsOf (l : Int) (fun _ => 4) body).flatten := ⟨_, rfl⟩
  have HA3 := hide hA3
  have HA4 := hide hA4
  have hl3 : A3.length = la := by rw [hA3]; exact hA 3
  have hl4 : A4.length = la := by rw [hA4]; exact hA 4
  have Hl3 := hide hl3
  have Hl4 := hide hl4
  have Hrun3 : Hid (gRun (gStart l) (chunkN A3) = .inr (body, (c : Nat), 0)) := hide (by rw [hA3, hc]; exact back_ok hL hlt 3 (by decide))
  have Hsp3 : Hid (∀ w1, Src w1 (.slice bo body.length cap) body → Calls Try.prog 14 #[.int .i64 l, .int .i64 3, .slice bo body.length cap] w1 fun e w' => ∃ v, e = .returned v ∧ Own w' w1.heap.size v A3 ∧ Kept (fun _ => False) w1 w') := hide (fun w1 h1 => by rw [hA3]; exact spread_at w1 l 3 _ body h1 hL (by decide))
  have Hsp4 : Hid (∀ w1, Src w1 (.slice bo body.length cap) body → Calls Try.prog 14 #[.int .i64 l, .int .i64 4, .slice bo body.length cap] w1 fun e w' => ∃ v, e = .returned v ∧ Own w' w1.heap.size v A4 ∧ Kept (fun _ => False) w1 w') := hide (fun w1 h1 => by rw [hA4]; exact spread_at w1 l 4 _ body h1 hL (by decide))
  obtain ⟨len, hlen⟩ : ∃ len, len = body.length := ⟨_, rfl⟩
  rw [← hlen] at HV Hsp3 Hsp4 hb ⊢
  have Hlen := hide hlen
  clear hi3 hz3 hs3 hb3 hsb hL hlt hv hc hla hA hA3 hA4 hl3 hl4 hlen
  go_enter Try.func4, Try.ntmps4
  go_wp2_with fail
  refine (first_law w).mono ?_
  rintro e w1 ⟨rfl, hk1⟩
  have HV1 := hide (HV.out.kept hk1)
  have HK1 := hide hk1
  clear hk1
  go_wp2_with fail
  refine (Hsp3.out w1 HV1.out).mono ?_
  rintro e w2 ⟨va, rfl, hO2, hk2⟩
  obtain ⟨ga, ca, Ca, rfl, hba, hca, hgaw⟩ := hO2.blk (by rw [Hl3.out]; omega)
  rw [Hl3.out] at hca
  have HBa2 := hide hba
  have HV2 := hide (HV1.out.kept hk2)
  have HK2 := hide (HK1.out.trans hk2 (fun _ _ h => h))
  have hgaw2 : w.heap.size ≤ ga := by have := HK1.out.size; omega
  rw [Hl3.out]
  clear hO2 hk2 hba hgaw HV1 HK1 Hsp3
  go_wp2_with fail
  refine (Hsp4.out w2 HV2.out).mono ?_
  rintro e w3 ⟨vb, rfl, hO3, hk3⟩
  obtain ⟨gb, cb, Cb, rfl, hbb, hcb, hgbw⟩ := hO3.blk (by rw [Hl4.out]; omega)
  rw [Hl4.out] at hcb
  have HBb3 := hide hbb
  have HBa3 := hide (hk3.blk HBa2.out (fun h => h))
  have HV3 := hide (HV2.out.kept hk3)
  have HK3 := hide (HK2.out.trans hk3 (fun _ _ h => h))
  rw [Hl4.out]
  clear hO3 hk3 hbb hgbw HV2 HK2 Hsp4 HBa2
  go_wp2_with (first
    | ((with_reducible refine aw_alloc (dst := some 9) Hi3.out Hz3.out ?_); intro w4 hb4 hk4 hz4; have Yz4 := hide hz4; clear hz4)
    | (with_reducible refine stop_store 3 ?_)
    | fail)
  refine hide ?_
  refine aw_store1 (v := .int .i64 0) Hi3.out Hs3.out rfl rfl rfl rfl hb4 (by simp [Value.cells]) ?_
  intro w5 hb5 hk5 hz5
  have hk35 : Kept (fun _ => False) w3 w5 := hk4.trans hk5 (fun i hi h => by omega)
  obtain ⟨bc, hbc⟩ : ∃ b, b = w3.heap.size := ⟨_, rfl⟩
  have HC5 : Hid (Blk w5 bc [.int .i64 ((0 : Nat) : Int)] 3) := hide (by rw [hbc]; exact hb5)
  have hbcw : w.heap.size ≤ bc := by have := HK3.out.size; omega
  rw [← hbc]
  have HBa5 := hide (hk35.blk HBa3.out (fun h => h))
  have HBb5 := hide (hk35.blk HBb3.out (fun h => h))
  have HV5 := hide (HV3.out.kept hk35)
  have HK5 := hide (HK3.out.trans hk35 (fun _ _ h => h))
  clear hk4 hk5 hk35 hb4 hb5 hz5 Yz4 hbc HBa3 HBb3 HV3 HK3
  have hA3lt : ∀ y ∈ A3, y < 256 := by rw [HA3.out]; exact sectors_lt HLt.out
  have hA4lt : ∀ y ∈ A4, y < 256 := by rw [HA4.out]; exact sectors_lt HLt.out
  have HA4lt := hide hA4lt
  have HSa5 : Hid (Src w5 (.slice (some ⟨ga, 0, none⟩) la ca) A3) := hide (by
    have := HBa5.out.src (B := A3) (cap := ca) (by rw [List.take_left' (by rw [BV_length])]) hA3lt (by rw [Hl3.out]; exact hca)
    rw [Hl3.out] at this
    exact this)
  clear hA3lt hA4lt
  go_wp2_with fail
  refine (lcut_at w5 _ bc rfl).mono ?_
  rintro e w6 ⟨bl, bp, rfl, hbl, hbp, hk6, hl1, hl2⟩
  have HGa := hide (gather_cut w6 l _ _ bl bp bc 0 hbl hbp (hk6.blk HC5.out (fun h => h)) (HSa5.out.kept hk6) (by rw [Hl3.out]; omega) (by decide) (by omega))
  rw [Hrun3.out] at HGa
  have HBa6 := hide (hk6.blk HBa5.out (fun h => h))
  have HBb6 := hide (hk6.blk HBb5.out (fun h => h))
  have HV6 := hide (HV5.out.kept hk6)
  have HK6 := hide (HK5.out.trans hk6 (fun _ _ h => h))
  have HC6 := hide (hk6.blk HC5.out (fun h => h))
  clear hk6 hbl hbp hl1 hl2 HBa5 HBb5 HV5 HK5 HC5 HSa5 Hrun3
  go_wp2_with fail
  refine HGa.out.mono ?_
  rintro e w7 ⟨v7, pre, rfl, hs7, hk7, hc7, ⟨post, hpost⟩, -⟩
  have hpl : pre.length ≤ 1000000 := by
    have := congrArg List.length hpost
    rw [chunkN_length, Hl3.out, List.length_append] at this
    omega
  obtain ⟨n0, hn0⟩ : ∃ n, n = 0 + pre.length := ⟨_, rfl⟩
  rw [← hn0] at hc7
  have hn0l : n0 ≤ 1000000 := by omega
  have HC7 := hide hc7
  have HBa7 := hide (hk7.blk HBa6.out (HBa6.out.ne HC6.out (by decide)))
  have HBb7 := hide (hk7.blk HBb6.out (HBb6.out.ne HC6.out (by decide)))
  have HV7 := hide (HV6.out.keptX hk7 (fun k h0 hk e => HV6.out.ne3 h0 hk (e ▸ HC6.out)))
  have HK7 := hide (HK6.out.trans hk7 (fun i hi h => by omega))
  have s1 := run_strS hs7
  have s2 := run_strS HV7.out
  have hzl : (gEnd (.inr (body, (c : Int), 0))).1 = body := rfl
  rw [hzl] at s1
  obtain ⟨xo, xc, rfl⟩ := hs7.slice
  rw [hzl] at s1 ⊢
  have hmul : (64 : Int) * (c : Int) = (la : Nat) := by have := Hla.out; omega
  have hcn : ¬ (c : Int) = 0 := by omega
  obtain ⟨i, hi⟩ : ∃ i, i = x % c := ⟨_, rfl⟩
  have hic : i < c := by rw [hi]; exact Nat.mod_lt _ (by omega)
  have hmod : (x : Int).tmod (c : Int) = (i : Nat) := by rw [Int.tmod_eq_emod_of_nonneg (by omega), hi]; omega
  have hmod2 : (x : Int) % (c : Int) = (i : Nat) := by rw [hi]; omega
  have hll : (body.length : Int) = len := by rw [Hlen.out]
  clear hn0 hpl hpost post hc7 hk7 hs7 HBa6 HBb6 HV6 HK6 HC6 HGa hzl hi
  simp only [gEnd]
  go_wp2
  clear s1 s2 hmul hcn hmod hmod2 hll
  obtain ⟨q, hq⟩ : ∃ q, q = 64 * i := ⟨_, rfl⟩
  obtain ⟨q2, hq2⟩ : ∃ q2, q2 = q + 64 := ⟨_, rfl⟩
  have hqa : q2 ≤ la := by have := Hla.out; omega
  refine hold_frame (p := fun fr => Code.wp Try.prog _ _ fr _) ?_
  intro fr hfr
  have e7 : fr.eval (.tmp 7) = .slice (some ⟨ga, 0, none⟩) la ca := by rw [hfr.out]; rfl
  have e8 : fr.eval (.tmp 8) = .slice (some ⟨gb, 0, none⟩) la cb := by rw [hfr.out]; rfl
  have e13 : fr.eval (.tmp 13) = .int .i64 i := by rw [hfr.out]; rfl
  have hts : fr.tmps.size = 89 := by rw [hfr.out]; rfl
  refine region_S 99 (fun _ => True) Try.mixed ?_
  intro w0 hkw hheap
  have HBa0 := hide (hkw.blk HBa7.out (fun h => h))
  have HBb0 := hide (hkw.blk HBb7.out (fun h => h))
  have HV0 := hide (HV7.out.kept hkw)
  have HC0 := hide (hkw.blk HC7.out (fun h => h))
  have HK0 := hide (HK7.out.trans hkw (fun _ _ h => h))
  clear HBa7 HBb7 HV7 HC7 HK7
  have hS0 := trivial
  refine tkS 0 63 (v := .slice (some ⟨ga, 0, none⟩) la ca) hS0 rfl rfl (by kernel_rfl) (by kernel_rfl) (by kernel_rfl) (by kernel_rfl) (wanted_none rfl) (fun _ _ _ h => h) (fun U hU => r_move (by simp [eval_put_ne, eval_put_eq, size_put, hts, e7])) ?_
  refine tkS 1 64 (v := .int .i64 i) hS0 rfl rfl (by kernel_rfl) (by kernel_rfl) (by kernel_rfl) (by kernel_rfl) (wanted_none rfl) (fun _ _ _ h => h) (fun U hU => r_move (by simp [eval_put_ne, eval_put_eq, size_put, hts, e13])) ?_
  refine tkS 2 65 (v := .int .i64 q) hS0 rfl rfl (by kernel_rfl) (by kernel_rfl) (by kernel_rfl) (by kernel_rfl) (wanted_none rfl) (fun _ _ _ h => h) (fun U hU => r_mul64 (p := i) hq (by omega) rfl (by simp [eval_put_ne, eval_put_eq, size_put, hts])) ?_
  refine tkS 3 66 (v := .slice (some ⟨ga, q, none⟩) (la - q) (ca - q)) hS0 rfl rfl (by kernel_rfl) (by kernel_rfl) (by kernel_rfl) (by kernel_rfl) (wanted_none rfl) (fun _ _ _ h => h) (fun U hU => r_lo22e (z := .tmp 0) (b := ga) (off := 0) (len := la) (cap := ca) q q (k := .i64) (Nat.zero_add q) (by simp [eval_put_ne, eval_put_eq, size_put, hts]) (by simp [eval_put_ne, eval_put_eq, size_put, hts]) (by omega) (by omega)) ?_
  refine tkS 4 67 (v := .slice (some ⟨gb, 0, none⟩) la cb) hS0 rfl rfl (by kernel_rfl) (by kernel_rfl) (by kernel_rfl) (by kernel_rfl) (wanted_none rfl) (fun _ _ _ h => h) (fun U hU => r_move (by simp [eval_put_ne, eval_put_eq, size_put, hts, e8])) ?_
  refine tkS 5 68 (v := .int .i64 i) hS0 rfl rfl (by kernel_rfl) (by kernel_rfl) (by kernel_rfl) (by kernel_rfl) (wanted_none rfl) (fun _ _ _ h => h) (fun U hU => r_move (by simp [eval_put_ne, eval_put_eq, size_put, hts, e13])) ?_
  refine tkS 6 69 (v := .int .i64 q) hS0 rfl rfl (by kernel_rfl) (by kernel_rfl) (by kernel_rfl) (by kernel_rfl) (wanted_none rfl) (fun _ _ _ h => h) (fun U hU => r_mul64 (p := i) hq (by omega) rfl (by simp [eval_put_ne, eval_put_eq, size_put, hts])) ?_
  refine tkS 7 70 (v := .int .i64 i) hS0 rfl rfl (by kernel_rfl) (by kernel_rfl) (by kernel_rfl) (by kernel_rfl) (wanted_none rfl) (fun _ _ _ h => h) (fun U hU => r_move (by simp [eval_put_ne, eval_put_eq, size_put, hts, e13])) ?_
  refine tkS 8 71 (v := .int .i64 q) hS0 rfl rfl (by kernel_rfl) (by kernel_rfl) (by kernel_rfl) (by kernel_rfl) (wanted_none rfl) (fun _ _ _ h => h) (fun U hU => r_mul64 (p := i) hq (by omega) rfl (by simp [eval_put_ne, eval_put_eq, size_put, hts])) ?_
  refine tkS 9 72 (v := .int .i64 q2) hS0 rfl rfl (by kernel_rfl) (by kernel_rfl) (by kernel_rfl) (by kernel_rfl) (wanted_none rfl) (fun _ _ _ h => h) (fun U hU => r_add64 (p := q) hq2 (by omega) (by simp [eval_put_ne, eval_put_eq, size_put, hts]) rfl) ?_
  refine tkS 10 73 (v := .slice (some ⟨gb, q, none⟩) (q2 - q) (cb - q)) hS0 rfl rfl (by kernel_rfl) (by kernel_rfl) (by kernel_rfl) (by kernel_rfl) (wanted_none rfl) (fun _ _ _ h => h) (fun U hU => r_mid22e (sb := gb) (so := 0) (len := la) (cap := cb) q q2 q (k := .i64) (j := .i64) (Nat.zero_add q) (by simp [eval_put_ne, eval_put_eq, size_put, hts]) (by simp [eval_put_ne, eval_put_eq, size_put, hts]) (by simp [eval_put_ne, eval_put_eq, size_put, hts]) (by omega) (by omega)) ?_
  have hcs : Cells w0 gb q (BV ((A4.drop q).take 64)) := by
    have h1 := HBb0.out.cells 0 A4.length
    rw [List.drop_zero, List.take_left' (by rw [BV_length])] at h1
    have h2 := h1.part q 64
    rw [← BV_drop, ← BV_take, Nat.zero_add] at h2
    exact h2
  have hMl : ((A4.drop q).take 64).length = q2 - q := by rw [List.length_take, List.length_drop, Hl4.out]; omega
  have hrun := run_copyS (ty := 3) (dLen := la - q) (dCap := ca - q) (sCap := cb - q) (off := q) HBa0.out hcs hMl (by omega) (by rw [List.length_append, BV_length, Hl3.out]; omega)
  refine oneVS 11 74 (v := goInt ((q2 - q : Nat) : Int)) (by kernel_rfl) rfl rfl (wanted_none rfl) (r_copy22 (u := .slice (some ⟨ga, q, none⟩) (la - q) (ca - q)) (v := .slice (some ⟨gb, q, none⟩) (q2 - q) (cb - q)) (by simp [eval_put_ne, eval_put_eq, size_put, hts]) (by simp [eval_put_ne, eval_put_eq, size_put, hts]) hrun) trivial ?_
  refine doneS (by kernel_rfl) ?_
  have hba := HBa0.out.setRow (put (BV A3 ++ Ca) q (BV ((A4.drop q).take 64)))
  have hkc : Kept (fun k => k = ga) w0 (w0.setRow ga (put (BV A3 ++ Ca) q (BV ((A4.drop q).take 64))).toArray) := Kept.setRow (S := fun k => k = ga) _ _ _ rfl
  generalize w0.setRow ga (put (BV A3 ++ Ca) q (BV ((A4.drop q).take 64))).toArray = w8 at hba hkc ⊢
  rw [hfr.out]
  clear hfr e7 e8 e13 hts
  simp only [put_lit, put_none, List.set_cons_succ, List.set_cons_zero]
  obtain ⟨A5, hA5⟩ : ∃ A, A = (sectorsOf (l : Int) (epI i) body).flatten := ⟨_, rfl⟩
  have hA5e : A5 = A3.take q ++ (A4.drop q).take 64 ++ A3.drop (q + 64) := by rw [hA5, HA3.out, HA4.out, hq]; exact copied (by rw [← Hc.out]; exact hic)
  have hl5 : A5.length = la := by rw [hA5, flat_len _ sectorsOf_64, sectorsOf_length, Hla.out, Hc.out]
  have hputA : put (BV A3 ++ Ca) q (BV ((A4.drop q).take 64)) = BV A5 ++ Ca := by
    have hm64 : ((A4.drop q).take 64).length = 64 := by rw [hMl]; omega
    unfold put
    rw [BV_length, hm64, hA5e, BV_append, BV_append, BV_take A3, BV_drop A3, List.take_append_of_le_length (by rw [BV_length, Hl3.out]; omega), List.drop_append_of_le_length (by rw [BV_length, Hl3.out]; omega)]
    simp only [List.append_assoc]
  rw [hputA] at hba
  have hgc : bc ≠ ga := fun e => HBa0.out.ne HC0.out (by decide) e.symm
  have HS8 : Hid (Src w8 (.slice (some ⟨ga, 0, none⟩) la ca) A5) := hide (by
    have := hba.src (B := A5) (cap := ca) (by rw [List.take_left' (by rw [BV_length])]) (by rw [hA5]; exact sectors_lt HLt.out) (by rw [hl5]; exact hca)
    rw [hl5] at this
    exact this)
  have HC8 := hide (hkc.blk HC0.out hgc)
  have HK8 := hide (HK0.out.trans hkc (fun i hi h => by omega))
  have Hl5 := hide hl5
  have Hdec : Hid (decide ((gEnd (gRun (gStart l) (chunkN A5))).2.2 = 0) = decide (c = 1)) := hide (by rw [hA5, Hc.out]; exact back_no HL.out HLt.out (by rw [← Hc.out]; exact hic))
  clear hA5 hA5e hl5 hputA hba hgc hkc hcs hMl hrun hS0 hkw hheap HBa0 HBb0 HV0 HC0 HK0 hq hq2 hqa
  go_wp2_with fail
  refine (lcut_at w8 _ bc rfl).mono ?_
  rintro e w9 ⟨bl2, bp2, rfl, hbl, hbp, hk9, hl1, hl2⟩
  have HGa := hide (gather_cut w9 l _ _ bl2 bp2 bc n0 hbl hbp (hk9.blk HC8.out (fun h => h)) (HS8.out.kept hk9) (by rw [Hl5.out]; omega) hn0l (by omega))
  have HK9 := hide (HK8.out.trans hk9 (fun _ _ h => h))
  clear hk9 hbl hbp hl1 hl2 HS8 HC8 HK8
  go_wp2_with fail
  refine HGa.out.mono ?_
  rintro e w10 ⟨v10, pre2, rfl, hs10, hk10, hc10, -, -⟩
  have HK10 := hide (HK9.out.trans hk10 (fun i hi h => by omega))
  obtain ⟨er, her⟩ : ∃ er, er = (gEnd (gRun (gStart l) (chunkN A5))).2.2 := ⟨_, rfl⟩
  rw [← her] at Hdec ⊢
  obtain ⟨ct, hct⟩ : ∃ ct, ct = (gEnd (gRun (gStart l) (chunkN A5))).2.1 := ⟨_, rfl⟩
  rw [← hct]
  clear her hct hs10 hk10 hc10 HGa
  by_cases he : er = 0
  · have hc1' : c = 1 := by have := Hdec.out; simp [he] at this; exact this
    have heb : (er == 0) = true := by simpa using he
    have hcb : ((c : Int) == 1) = true := by simp [hc1']
    clear hc1' he
    go_wp2
    go_ret
    exact ⟨rfl, HK10.out⟩
  · have hc1' : c ≠ 1 := by have := Hdec.out; simp [he] at this; exact this
    have heb : (er == 0) = false := by simpa using he
    have hcb : ((c : Int) == 1) = false := by simp; omega
    clear hc1' he
    go_wp2
    go_ret
    exact ⟨rfl, HK10.out⟩
end Go.Proofs.Ytjkggmjcaedggaa
