/-
  The walk of DevPlays.
-/
import Derived.Test.YtjepiaacaemkhaaPlaysF
namespace Go.Proofs.Ytjepiaacaemkhaa
open Go.RowKit Go.Shelf
set_option linter.unusedSimpArgs false
set_option linter.unusedVariables false

theorem r_rem6 {ρ : Operand → Value} {w : World} {dst : Option Tmp} {ty : TypeId} {pos : String} {aft : Array Edge} {gd : Option (Nat × Bool)} {x y : Operand} {v q : Int} (hx : ρ x = .int .u64 v) (hy : ρ y = .int .u64 6) (h0 : 0 ≤ v) (hq : v % 6 = q) :
    (execOp ρ ⟨dst, .binOp .rem 45 x y 45, ty, pos, aft, gd⟩).run Try.prog w = .ok (.value (.int .u64 q)) w := by
  have ht : v.tmod 6 = q := by rw [Int.tmod_eq_emod_of_nonneg h0]; exact hq
  go_simp

theorem readR_byte (s : DS) (n : Nat) (a m : Int) (h : 1 ≤ n ∧ n ≤ 4096 ∧ s.st.length = 64 * n ∧ (∀ v ∈ s.st, isByte v) ∧ (∀ p ∈ s.ws, okWait n p) ∧ -1 ≤ s.left ∧ s.left ≤ 9223372036854775807) : ∀ u ∈ (s.readR n a m).1, isByte u := by
  have hok := laidTo_ok (fun _ => true) n s.ws s.st h.2.2.2.2.1 h.2.2.1 h.2.2.2.1 s.ws.length (Nat.le_refl _)
  unfold DS.readR
  intro u hu
  split at hu
  · simp at hu
  split at hu
  · exact hok.2 u (List.mem_of_mem_drop (List.mem_of_mem_take hu))
  · simp at hu
theorem bytesIs.kept {w w' : World} {v : Value} {T : List Value} (h : bytesIs w v T) (hk : Kept (fun _ => False) w w') : bytesIs w' v T := by
  rcases h with h | ⟨g, cap, rfl, hc⟩
  · exact .inl h
  · exact .inr ⟨g, cap, rfl, hk.cells hc (fun h => h)⟩
theorem Pl.img {w0 w : World} {d xb n : Nat} {s s' : DS} {rv : Value} {E : List (Nat × List Value × TypeId)} (h : Pl w0 w d xb n s s' rv E) :
    Calls Try.prog 17 #[.pointer (some ⟨d, 0, none⟩)] w fun e w' => ∃ g, e = .returned (.slice (some ⟨g, 0, none⟩) (n * 64) (n * 64)) ∧ Cells w' g 0 s.st ∧ Pl w0 w' d xb n s s' rv E := by
  have hl := h.facts.2.2.1
  obtain ⟨hx, he, G, hd, hr⟩ := h
  refine hd.image.mono ?_
  rintro e w' ⟨g, rfl, h2⟩
  refine ⟨g, rfl, ?_, hx, he, G, h2.sub (by intro x hx; simp at hx ⊢; rcases hx with h | h | h <;> simp [h]), hr⟩
  have := (h2.blk (g, s.st, 5) (by simp)).cells 0 s.st.length
  rwa [List.drop_zero, List.take_length] at this
theorem rowStep_one {w w' : World} {rv rv' : Value} {ws : List (Nat × List Value)} (s2 : DS) (h : rowStep w w' rv ws rv' s2.ws) {l : Nat} (hs : ∃ ro rc, rv = .slice ro l rc) : ∀ v ∈ refL s2 rv', v.oneCell' = true := by
  obtain ⟨ro, rl, rc, rfl⟩ : ∃ ro rl rc, rv' = .slice ro rl rc := by
    rcases h with ⟨rfl, _⟩ | h
    · obtain ⟨ro, rc, rfl⟩ := hs
      exact ⟨_, _, _, rfl⟩
    · exact ownsRow_slice h
  exact refL_one s2 ro rl rc

theorem six {p : Prop} {x : Int} (h0 : 0 ≤ x) (h6 : x < 6) (k0 : x = 0 → p) (k1 : x = 1 → p) (k2 : x = 2 → p) (k3 : x = 3 → p) (k4 : x = 4 → p) (k5 : x = 5 → p) : p := by
  by_cases e0 : x = 0
  · exact k0 e0
  by_cases e1 : x = 1
  · exact k1 e1
  by_cases e2 : x = 2
  · exact k2 e2
  by_cases e3 : x = 3
  · exact k3 e3
  by_cases e4 : x = 4
  · exact k4 e4
  exact k5 (by omega)

set_option maxRecDepth 100000 in
set_option maxHeartbeats 40000000 in
theorem plays_any (w : World) (n : Nat) (h1 : 1 ≤ n) (h2 : n ≤ 60) (ao : Option Addr) (len cap : Nat) (hlen : len ≤ 9223372036854775807) (hsrc : ∀ k, k < len → ∃ sb so vs, ao = some ⟨sb, so, none⟩ ∧ Cells w sb (so + k * 5) vs ∧ OpIs w vs) :
    Calls Try.prog 3 #[.int .i64 n, .slice ao len cap] w fun e w' => e = .returned (.bool true) ∧ Kept (fun _ => False) w w' := by
  have HSrc := hide hsrc
  obtain ⟨i40, hi40, hz40, hs40, hb40⟩ := info_parts Try.info40
  have Hi40 := hide hi40
  have Hz40 := hide hz40
  obtain ⟨i44, hi44, hz44, hs44, hb44⟩ := info_parts Try.info44
  have Hi44 := hide hi44
  have Hz44 := hide hz44
  have HN5 : Hid ((refL (DS.new n) (.slice none 0 0)).length = 5) := hide rfl
  have HN1 := hide (refL_one (DS.new n) none 0 0)
  clear hsrc hi40 hz40 hs40 hb40 hi44 hz44 hs44 hb44
  go_enter Try.func3, Try.ntmps3
  go_wp2_with fail
  refine (first_any w).mono ?_
  rintro e w1 ⟨rfl, hk1⟩
  go_wp2_with fail
  refine (Dv.new w w1 n h1 (by omega) hk1 [] (by simp)).mono ?_
  rintro e w2 ⟨d, rfl, hd2⟩
  go_wp2_with fail
  refine (refNew_any w2 n h2).mono ?_
  rintro e w3 ⟨rfl, hk3⟩
  rw [refL_A]
  go_wp2_with (first
    | ((with_reducible refine aw_alloc (dst := some 9) Hi40.out Hz40.out ?_); intro w4 hw4 hk4 hz4; have Hz4 := hide hz4; clear hz4)
    | ((with_reducible refine aw_store (x := .tmp 9) Try.agg40 rfl rfl HN5.out HN1.out hw4 (by simp [Value.cells]) ?_); intro w5 hw5 hk5 hz5; rw [put_whole _ _ (by simp [Value.cells, refL])] at hw5; have Hz5 := hide hz5; clear hz5))
  have hP : Pl w w5 d w3.heap.size n (DS.new n) (DS.new n) (.slice none 0 0) [] := by
    have hd3 := hd2.same hk3
    refine ⟨hd3.kept.size, by simp, [], hd3.more (hk4.trans hk5 (fun i hi e => by omega)) w3.heap.size _ 40 hw5 (Nat.le_refl _), .inl ⟨rfl, rfl, rfl⟩⟩
  obtain ⟨xb, hxb⟩ : ∃ xb, xb = w3.heap.size := ⟨_, rfl⟩
  rw [← hxb] at hP ⊢
  clear hxb hw4 hk4 hw5 hk5 hk3 hd2 hk1 Hz4 Hz5 HN5 HN1
  go_loopw [91, 6] (fun i ev wr => ∃ (k : Nat) (s : DS) (rv : Value), k ≤ len ∧ k ≤ 60 ∧ i = .int .i64 k ∧ Pl w wr d xb n s s rv [] ∧ s.calls ≤ k ∧ s.ws.length ≤ 32 * k) (fun i _ _ => len - (intOf i).toNat)
  case atStart => exact ⟨0, _, _, Nat.zero_le _, Nat.zero_le _, rfl, hP, by simp [DS.new], by simp [DS.new]⟩
  case round =>
    obtain ⟨k, s, rv, hkl, hk60, rfl, hpl, hcl, hwl⟩ := hrel
    clear hP
    by_cases hlt : k < len
    · obtain ⟨sb, so, vs, rfl, hcs, hop⟩ := HSrc.out k hlt
      obtain ⟨kd, a, m, bo, bc, B, kv, ks, rfl, hkd, ha, hm, hbc, hbl, hBb, hbs, hkp⟩ := hop
      have hcr := hpl.kept.cells hcs (fun h => h)
      have HKp := hide hkp
      have HBs := hide hbs
      have HBb := hide hBb
      have Hcs := hide hcs
      have H1 : Hid (∀ v ∈ [Value.int .i64 kd, .int .i64 a, .int .i64 m, .slice bo B.length bc, kv], v.oneCell' = true) := hide (by
        obtain ⟨kao, kcap, rfl, _⟩ := hkp
        intro v hv
        simp at hv
        rcases hv with rfl | rfl | rfl | rfl | rfl <;> rfl)
      obtain ⟨kao, kcap, rfl, hkl2, _⟩ := hkp
      have HP := hide hpl
      clear hcs hbs hBb hpl
      by_cases hk6 : 60 ≤ k
      · go_wp2_with (first
          | ((with_reducible refine aw_loadC Try.agg44 rfl hcr rfl ?_))
          | ((with_reducible refine aw_alloc (dst := some 11) Hi44.out Hz44.out ?_); intro w6 hw6 hk6' hz6; have Hz6 := hide hz6; clear hz6)
          | ((with_reducible refine aw_store (x := .tmp 11) (M := [Value.int .i64 kd, .int .i64 a, .int .i64 m, .slice bo B.length bc, .slice kao ks.length kcap]) Try.agg44 rfl rfl rfl H1.out hw6 (by simp [Value.cells]) ?_); intro w7 hw7 hk7 hz7; rw [put_whole _ _ (by simp [Value.cells])] at hw7; have Hz7 := hide hz7; clear hz7; have c3 : w7.cell? ⟨wr.heap.size, 3, none⟩ = some (.slice bo B.length bc) := hw7.cell 3))
        go_ret
        exact ⟨rfl, (HP.out.kept.trans hk6' (fun _ _ h => h)).trans hk7 (fun i hi h => by have := HP.out.kept.size; omega)⟩
      · by_cases hb2 : 2000 < B.length
        · go_wp2_with (first
            | ((with_reducible refine aw_loadC Try.agg44 rfl hcr rfl ?_))
            | ((with_reducible refine aw_alloc (dst := some 11) Hi44.out Hz44.out ?_); intro w6 hw6 hk6' hz6; have Hz6 := hide hz6; clear hz6)
            | ((with_reducible refine aw_store (x := .tmp 11) (M := [Value.int .i64 kd, .int .i64 a, .int .i64 m, .slice bo B.length bc, .slice kao ks.length kcap]) Try.agg44 rfl rfl rfl H1.out hw6 (by simp [Value.cells]) ?_); intro w7 hw7 hk7 hz7; rw [put_whole _ _ (by simp [Value.cells])] at hw7; have Hz7 := hide hz7; clear hz7; have c3 : w7.cell? ⟨wr.heap.size, 3, none⟩ = some (.slice bo B.length bc) := hw7.cell 3))
          go_ret
          exact ⟨rfl, (HP.out.kept.trans hk6' (fun _ _ h => h)).trans hk7 (fun i hi h => by have := HP.out.kept.size; omega)⟩
        · go_wp2_with (first
            | ((with_reducible refine aw_loadC Try.agg44 rfl hcr rfl ?_))
            | ((with_reducible refine aw_alloc (dst := some 11) Hi44.out Hz44.out ?_); intro w6 hw6 hk6' hz6; have Hz6 := hide hz6; clear hz6)
            | ((with_reducible refine aw_store (x := .tmp 11) (M := [Value.int .i64 kd, .int .i64 a, .int .i64 m, .slice bo B.length bc, .slice kao ks.length kcap]) Try.agg44 rfl rfl rfl H1.out hw6 (by simp [Value.cells]) ?_); intro w7 hw7 hk7 hz7; rw [put_whole _ _ (by simp [Value.cells])] at hw7; have Hz7 := hide hz7; clear hz7; have c3 : w7.cell? ⟨wr.heap.size, 3, none⟩ = some (.slice bo B.length bc) := hw7.cell 3; have c0 : w7.cell? ⟨wr.heap.size, 0, none⟩ = some (.int .i64 kd) := hw7.cell 0)
            | (with_reducible refine stop_bin .rem ?_))
          refine hide ?_
          have hv0 : 0 ≤ IntKind.u64.wrap kd := by rw [IntKind.wrap_u64]; omega
          obtain ⟨q, hq⟩ : ∃ q, IntKind.u64.wrap kd % 6 = q := ⟨_, rfl⟩
          have hq0 : 0 ≤ q := by omega
          have hq6 : q < 6 := by omega
          have HQ := hide hq
          clear hq
          have hkA : Kept (fun _ => False) wr w7 := hk6'.trans hk7 (fun i hi e => by omega)
          have HP7 := hide (HP.out.more hkA wr.heap.size [Value.int .i64 kd, .int .i64 a, .int .i64 m, .slice bo B.length bc, .slice kao ks.length kcap] 44 hw7 (Nat.le_refl _) (by decide))
          have HL5 : Hid (0 + 5 ≤ (refL s rv).length) := hide (by rw [refL_len]; decide)
          have HLd : Hid (((refL s rv).drop 0).take 5 = refL s rv) := hide rfl
          clear hkA hk6' hk7 hw7 hw6 Hz6 Hz7 c3 c0 hcr
          refine wpList_run rfl (r_rem6 (v := IntKind.u64.wrap kd) (q := q) rfl rfl hv0 HQ.out) ?_
          refine six (x := q) hq0 hq6 ?k0 ?k1 ?k2 ?k3 ?k4 ?k5
          case k0 =>
            rintro rfl
            have HRd : Hid (Calls Try.prog 8 #[.pointer (some ⟨d, 0, none⟩), .int .i64 a, .int .i64 m] w7 fun e w' => ∃ v, e = .returned (.tuple #[v, .int .i64 (s.readR n a m).2]) ∧ bytesIs w' v (s.readR n a m).1 ∧ Kept (fun _ => False) w7 w') := hide (by
              obtain ⟨_, _, G, hd, _⟩ := HP7.out
              exact hd.readR a m ha)
            have HRb : Hid (∀ u ∈ (s.readR n a m).1, isByte u) := hide (readR_byte s n a m HP7.out.facts)
            have c0 : w7.cell? ⟨wr.heap.size, 0, none⟩ = some (.int .i64 kd) := (HP7.out.ex (x := (wr.heap.size, [Value.int .i64 kd, .int .i64 a, .int .i64 m, .slice bo B.length bc, .slice kao ks.length kcap], 44)) (by simp)).cell 0; have c1 : w7.cell? ⟨wr.heap.size, 1, none⟩ = some (.int .i64 a) := (HP7.out.ex (x := (wr.heap.size, [Value.int .i64 kd, .int .i64 a, .int .i64 m, .slice bo B.length bc, .slice kao ks.length kcap], 44)) (by simp)).cell 1; have c2 : w7.cell? ⟨wr.heap.size, 2, none⟩ = some (.int .i64 m) := (HP7.out.ex (x := (wr.heap.size, [Value.int .i64 kd, .int .i64 a, .int .i64 m, .slice bo B.length bc, .slice kao ks.length kcap], 44)) (by simp)).cell 2; have c3 : w7.cell? ⟨wr.heap.size, 3, none⟩ = some (.slice bo B.length bc) := (HP7.out.ex (x := (wr.heap.size, [Value.int .i64 kd, .int .i64 a, .int .i64 m, .slice bo B.length bc, .slice kao ks.length kcap], 44)) (by simp)).cell 3; have c4 : w7.cell? ⟨wr.heap.size, 4, none⟩ = some (.slice kao ks.length kcap) := (HP7.out.ex (x := (wr.heap.size, [Value.int .i64 kd, .int .i64 a, .int .i64 m, .slice bo B.length bc, .slice kao ks.length kcap], 44)) (by simp)).cell 4
            go_wp2_with (first
              | (go_at_call 8; refine HRd.out.mono ?_; rintro e w8 ⟨v8, rfl, hv8, hk8⟩; have hP8 := HP7.out.same hk8; have b8 := hP8.blk; clear c0 c1 c2 c3 c4; have c0 : w8.cell? ⟨wr.heap.size, 0, none⟩ = some (.int .i64 kd) := (hP8.ex (x := (wr.heap.size, [Value.int .i64 kd, .int .i64 a, .int .i64 m, .slice bo B.length bc, .slice kao ks.length kcap], 44)) (by simp)).cell 0; have c1 : w8.cell? ⟨wr.heap.size, 1, none⟩ = some (.int .i64 a) := (hP8.ex (x := (wr.heap.size, [Value.int .i64 kd, .int .i64 a, .int .i64 m, .slice bo B.length bc, .slice kao ks.length kcap], 44)) (by simp)).cell 1; have c2 : w8.cell? ⟨wr.heap.size, 2, none⟩ = some (.int .i64 m) := (hP8.ex (x := (wr.heap.size, [Value.int .i64 kd, .int .i64 a, .int .i64 m, .slice bo B.length bc, .slice kao ks.length kcap], 44)) (by simp)).cell 2; have c3 : w8.cell? ⟨wr.heap.size, 3, none⟩ = some (.slice bo B.length bc) := (hP8.ex (x := (wr.heap.size, [Value.int .i64 kd, .int .i64 a, .int .i64 m, .slice bo B.length bc, .slice kao ks.length kcap], 44)) (by simp)).cell 3; have c4 : w8.cell? ⟨wr.heap.size, 4, none⟩ = some (.slice kao ks.length kcap) := (hP8.ex (x := (wr.heap.size, [Value.int .i64 kd, .int .i64 a, .int .i64 m, .slice bo B.length bc, .slice kao ks.length kcap], 44)) (by simp)).cell 4)
              | ((with_reducible refine aw_load (dst := some 135) Try.agg40 rfl b8 HL5.out HLd.out ?_))
              | (go_at_call 20; refine (refReadR w8 s n hP8.facts.2.2.1 hP8.facts.2.1 rv hP8.own hP8.facts.2.2.2.2.1 hP8.facts.2.2.2.1 a m ha).mono ?_; rintro e w9 ⟨rfl, hk9⟩; have hP9 := hP8.same hk9; have hv9 := hv8.kept hk9; clear c0 c1 c2 c3 c4; have c0 : w9.cell? ⟨wr.heap.size, 0, none⟩ = some (.int .i64 kd) := (hP9.ex (x := (wr.heap.size, [Value.int .i64 kd, .int .i64 a, .int .i64 m, .slice bo B.length bc, .slice kao ks.length kcap], 44)) (by simp)).cell 0; have c1 : w9.cell? ⟨wr.heap.size, 1, none⟩ = some (.int .i64 a) := (hP9.ex (x := (wr.heap.size, [Value.int .i64 kd, .int .i64 a, .int .i64 m, .slice bo B.length bc, .slice kao ks.length kcap], 44)) (by simp)).cell 1; have c2 : w9.cell? ⟨wr.heap.size, 2, none⟩ = some (.int .i64 m) := (hP9.ex (x := (wr.heap.size, [Value.int .i64 kd, .int .i64 a, .int .i64 m, .slice bo B.length bc, .slice kao ks.length kcap], 44)) (by simp)).cell 2; have c3 : w9.cell? ⟨wr.heap.size, 3, none⟩ = some (.slice bo B.length bc) := (hP9.ex (x := (wr.heap.size, [Value.int .i64 kd, .int .i64 a, .int .i64 m, .slice bo B.length bc, .slice kao ks.length kcap], 44)) (by simp)).cell 3; have c4 : w9.cell? ⟨wr.heap.size, 4, none⟩ = some (.slice kao ks.length kcap) := (hP9.ex (x := (wr.heap.size, [Value.int .i64 kd, .int .i64 a, .int .i64 m, .slice bo B.length bc, .slice kao ks.length kcap], 44)) (by simp)).cell 4)
              | (with_reducible refine stop_convert 28 9 ?_))
            refine hide ?_
            refine wpList_run rfl (r_strB (v := v8) (T := (s.readR n a m).1) rfl hv9 HRb.out) ?_
            have HP9 := hide hP9
            clear hP8 hP9 hv8 hv9 hk8 hk9 b8
            go_wp2_with (with_reducible refine stop_bin .rem ?_)
            refine hide ?_
            refine wpList_run rfl (r_rem6 (v := IntKind.u64.wrap kd) (q := 0) rfl rfl hv0 HQ.out) ?_
            obtain ⟨ro9, rc9, hsl9⟩ := HP9.out.slice
            have HSl9 := hide hsl9
            clear hsl9
            go_wp2_with fail
            refine hold_frame (p := fun fr => Code.wp Try.prog _ _ fr _) ?_
            intro fr hfr
            have e5 : fr.eval (.tmp 5) = .pointer (some ⟨d, 0, none⟩) := by rw [hfr.out]; rfl
            have e9 : fr.eval (.tmp 9) = .pointer (some ⟨xb, 0, none⟩) := by rw [hfr.out]; rfl
            have hts : fr.tmps.size = 250 := by rw [hfr.out]; rfl
            refine region_held (S := fun U => Blk U xb (refL s rv) 40) Try.mixed ?_
            intro wa hka hheap
            have hPa := HP9.out.same hka
            have hS := hPa.blk
            refine tkD 0 217 (v := .pointer (some ⟨d, 0, none⟩)) rfl rfl (by kernel_rfl) (by kernel_rfl) (by kernel_rfl) (wanted_none rfl) (fun _ _ _ h => h) hS (fun U hU => r_move (by simp [eval_put_ne, eval_put_eq, size_put, hts, e5])) ?_
            refine tkD 3 220 (v := .pointer (some ⟨xb, 0, none⟩)) rfl rfl (by kernel_rfl) (by kernel_rfl) (by kernel_rfl) (wanted_none rfl) (fun _ _ _ h => h) hS (fun U hU => r_fld40 (i := 0) (by decide) (by simp [eval_put_ne, eval_put_eq, size_put, hts, e9])) ?_
            refine tkD 4 221 (v := .string (strV s.st)) rfl rfl (by kernel_rfl) (by kernel_rfl) (by kernel_rfl) (wanted_none rfl) (fun _ _ _ h => h) hS (fun U hU => r_ld9 (b := xb) (i := 0) (by simp [eval_put_ne, eval_put_eq, size_put, hts]) (hU.cell 0)) ?_
            refine clWD 1 218 rfl rfl (by kernel_rfl) (wanted_none rfl) (r_call1 Try.func17 (by kernel_rfl) rfl rfl (by simp [eval_put_ne, eval_put_eq, size_put, hts])) (hPa.img) ?_
            rintro e wb ⟨g, rfl, hgc, hPb⟩
            have hS1 := hPb.blk
            refine ⟨_, rfl, hS1, ?_⟩
            clear hS
            have hS := hS1
            refine dnD 2 219 (v := .string (strV s.st)) rfl rfl (by kernel_rfl) (wanted_none rfl) (r_str (b := g) (so := 0) (len := n * 64) (cap := n * 64) (by simp [eval_put_ne, eval_put_eq, size_put, hts]) hgc (by rw [hPb.facts.2.2.1, Nat.mul_comm]) hPb.facts.2.2.2.1) hS1 ?_
            refine dnD 5 222 (v := .bool false) rfl rfl (by kernel_rfl) (wanted_none rfl) (r_neq9 (s := strV s.st) (by simp [eval_put_ne, eval_put_eq, size_put, hts]) (by simp [eval_put_ne, eval_put_eq, size_put, hts])) hS1 ?_
            refine dnD 6 223 (v := .bool false) rfl rfl (by kernel_rfl) (wanted_none rfl) (r_move (by simp [eval_put_ne, eval_put_eq, size_put, hts])) hS1 ?_
            refine tkD 7 224 (v := .pointer (some ⟨d, 0, none⟩)) rfl rfl (by kernel_rfl) (by kernel_rfl) (by kernel_rfl) (wanted_some (j := 6) (d := 223) (bb := false) rfl rfl rfl (by simp [eval_put_ne, eval_put_eq, size_put, hts]) (by simp [size_put, hts])) (fun _ _ _ h => h) hS (fun U hU => r_move (by simp [eval_put_ne, eval_put_eq, size_put, hts, e5])) ?_
            refine tkD 9 226 (v := .pointer (some ⟨xb, 1, none⟩)) rfl rfl (by kernel_rfl) (by kernel_rfl) (by kernel_rfl) (wanted_some (j := 6) (d := 223) (bb := false) rfl rfl rfl (by simp [eval_put_ne, eval_put_eq, size_put, hts]) (by simp [size_put, hts])) (fun _ _ _ h => h) hS (fun U hU => r_fld40 (i := 1) (by decide) (by simp [eval_put_ne, eval_put_eq, size_put, hts, e9])) ?_
            refine tkD 10 227 (v := .slice ro9 s.ws.length rc9) rfl rfl (by kernel_rfl) (by kernel_rfl) (by kernel_rfl) (wanted_some (j := 6) (d := 223) (bb := false) rfl rfl rfl (by simp [eval_put_ne, eval_put_eq, size_put, hts]) (by simp [size_put, hts])) (fun _ _ _ h => h) hS (fun U hU => r_ld38 (b := xb) (i := 1) (by simp [eval_put_ne, eval_put_eq, size_put, hts]) ((hU.cell 1).trans (congrArg some HSl9.out))) ?_
            refine tkD 11 228 (v := .int .i64 (s.ws.length : Int)) rfl rfl (by kernel_rfl) (by kernel_rfl) (by kernel_rfl) (wanted_some (j := 6) (d := 223) (bb := false) rfl rfl rfl (by simp [eval_put_ne, eval_put_eq, size_put, hts]) (by simp [size_put, hts])) (fun _ _ _ h => h) hS (fun U hU => r_len38 (ao := ro9) (c := rc9) (by simp [eval_put_ne, eval_put_eq, size_put, hts])) ?_
            refine clD 8 225 (v := .int .i64 (s.ws.length : Int)) rfl rfl (by kernel_rfl) (wanted_some (j := 6) (d := 223) (bb := false) rfl rfl rfl (by simp [eval_put_ne, eval_put_eq, size_put, hts]) (by simp [size_put, hts])) (r_call1 Try.func15 (by kernel_rfl) rfl rfl (by simp [eval_put_ne, eval_put_eq, size_put, hts])) (hPb.ask fun G h => h.waiting) hS1 ?_
            refine dnD 12 229 (v := .bool false) rfl rfl (by kernel_rfl) (wanted_some (j := 6) (d := 223) (bb := false) rfl rfl rfl (by simp [eval_put_ne, eval_put_eq, size_put, hts]) (by simp [size_put, hts])) (r_neq3 (i := (s.ws.length : Int)) (by simp [eval_put_ne, eval_put_eq, size_put, hts]) (by simp [eval_put_ne, eval_put_eq, size_put, hts])) hS1 ?_
            refine dnD 13 230 (v := .bool false) rfl rfl (by kernel_rfl) (wanted_none rfl) (r_pickF (by simp [eval_put_ne, eval_put_eq, size_put, hts]) (by simp [eval_put_ne, eval_put_eq, size_put, hts])) hS1 ?_
            refine dnD 14 231 (v := .bool false) rfl rfl (by kernel_rfl) (wanted_none rfl) (r_move (by simp [eval_put_ne, eval_put_eq, size_put, hts])) hS1 ?_
            refine tkD 15 232 (v := .pointer (some ⟨d, 0, none⟩)) rfl rfl (by kernel_rfl) (by kernel_rfl) (by kernel_rfl) (wanted_some (j := 14) (d := 231) (bb := false) rfl rfl rfl (by simp [eval_put_ne, eval_put_eq, size_put, hts]) (by simp [size_put, hts])) (fun _ _ _ h => h) hS (fun U hU => r_move (by simp [eval_put_ne, eval_put_eq, size_put, hts, e5])) ?_
            refine tkD 17 234 (v := .pointer (some ⟨xb, 2, none⟩)) rfl rfl (by kernel_rfl) (by kernel_rfl) (by kernel_rfl) (wanted_some (j := 14) (d := 231) (bb := false) rfl rfl rfl (by simp [eval_put_ne, eval_put_eq, size_put, hts]) (by simp [size_put, hts])) (fun _ _ _ h => h) hS (fun U hU => r_fld40 (i := 2) (by decide) (by simp [eval_put_ne, eval_put_eq, size_put, hts, e9])) ?_
            refine tkD 18 235 (v := .int .i64 (s.calls : Int)) rfl rfl (by kernel_rfl) (by kernel_rfl) (by kernel_rfl) (wanted_some (j := 14) (d := 231) (bb := false) rfl rfl rfl (by simp [eval_put_ne, eval_put_eq, size_put, hts]) (by simp [size_put, hts])) (fun _ _ _ h => h) hS (fun U hU => r_ld3 (b := xb) (i := 2) (by simp [eval_put_ne, eval_put_eq, size_put, hts]) (hU.cell 2)) ?_
            refine clD 16 233 (v := .int .i64 (s.calls : Int)) rfl rfl (by kernel_rfl) (wanted_some (j := 14) (d := 231) (bb := false) rfl rfl rfl (by simp [eval_put_ne, eval_put_eq, size_put, hts]) (by simp [size_put, hts])) (r_call1 Try.func16 (by kernel_rfl) rfl rfl (by simp [eval_put_ne, eval_put_eq, size_put, hts])) (hPb.ask fun G h => h.calls) hS1 ?_
            refine dnD 19 236 (v := .bool false) rfl rfl (by kernel_rfl) (wanted_some (j := 14) (d := 231) (bb := false) rfl rfl rfl (by simp [eval_put_ne, eval_put_eq, size_put, hts]) (by simp [size_put, hts])) (r_neq3 (i := (s.calls : Int)) (by simp [eval_put_ne, eval_put_eq, size_put, hts]) (by simp [eval_put_ne, eval_put_eq, size_put, hts])) hS1 ?_
            refine dnD 20 237 (v := .bool false) rfl rfl (by kernel_rfl) (wanted_none rfl) (r_pickF (by simp [eval_put_ne, eval_put_eq, size_put, hts]) (by simp [eval_put_ne, eval_put_eq, size_put, hts])) hS1 ?_
            refine dnD 21 238 (v := .bool false) rfl rfl (by kernel_rfl) (wanted_none rfl) (r_move (by simp [eval_put_ne, eval_put_eq, size_put, hts])) hS1 ?_
            refine tkD 22 239 (v := .pointer (some ⟨d, 0, none⟩)) rfl rfl (by kernel_rfl) (by kernel_rfl) (by kernel_rfl) (wanted_some (j := 21) (d := 238) (bb := false) rfl rfl rfl (by simp [eval_put_ne, eval_put_eq, size_put, hts]) (by simp [size_put, hts])) (fun _ _ _ h => h) hS (fun U hU => r_move (by simp [eval_put_ne, eval_put_eq, size_put, hts, e5])) ?_
            refine tkD 24 241 (v := .pointer (some ⟨xb, 4, none⟩)) rfl rfl (by kernel_rfl) (by kernel_rfl) (by kernel_rfl) (wanted_some (j := 21) (d := 238) (bb := false) rfl rfl rfl (by simp [eval_put_ne, eval_put_eq, size_put, hts]) (by simp [size_put, hts])) (fun _ _ _ h => h) hS (fun U hU => r_fld40 (i := 4) (by decide) (by simp [eval_put_ne, eval_put_eq, size_put, hts, e9])) ?_
            refine tkD 25 242 (v := .bool s.off) rfl rfl (by kernel_rfl) (by kernel_rfl) (by kernel_rfl) (wanted_some (j := 21) (d := 238) (bb := false) rfl rfl rfl (by simp [eval_put_ne, eval_put_eq, size_put, hts]) (by simp [size_put, hts])) (fun _ _ _ h => h) hS (fun U hU => r_ld4 (b := xb) (i := 4) (by simp [eval_put_ne, eval_put_eq, size_put, hts]) (hU.cell 4)) ?_
            refine clD 23 240 (v := .bool s.off) rfl rfl (by kernel_rfl) (wanted_some (j := 21) (d := 238) (bb := false) rfl rfl rfl (by simp [eval_put_ne, eval_put_eq, size_put, hts]) (by simp [size_put, hts])) (r_call1 Try.func18 (by kernel_rfl) rfl rfl (by simp [eval_put_ne, eval_put_eq, size_put, hts])) (hPb.ask fun G h => h.isOff) hS1 ?_
            refine dnD 26 243 (v := .bool false) rfl rfl (by kernel_rfl) (wanted_some (j := 21) (d := 238) (bb := false) rfl rfl rfl (by simp [eval_put_ne, eval_put_eq, size_put, hts]) (by simp [size_put, hts])) (r_neq4 (i := s.off) (by simp [eval_put_ne, eval_put_eq, size_put, hts]) (by simp [eval_put_ne, eval_put_eq, size_put, hts])) hS1 ?_
            refine dnD 27 244 (v := .bool false) rfl rfl (by kernel_rfl) (wanted_none rfl) (r_pickF (by simp [eval_put_ne, eval_put_eq, size_put, hts]) (by simp [eval_put_ne, eval_put_eq, size_put, hts])) hS1 ?_
            refine wpAnyH_done (by kernel_rfl) ?_ _
            clear e5 e9 hts hS hS1 hheap hka hPa hgc
            rw [hfr.out]
            clear hfr
            simp only [put_lit, List.set_cons_succ, List.set_cons_zero]
            have HPb := hide hPb.bare
            clear hPb
            go_wp2
            go_roundw
            case rel => exact ⟨k + 1, s, rv, by omega, by omega, by go_num, HPb.out, by omega, by omega⟩
            case measure => simp [intOf]; omega
          case k1 =>
            rintro rfl
            have c0 : w7.cell? ⟨wr.heap.size, 0, none⟩ = some (.int .i64 kd) := (HP7.out.ex (x := (wr.heap.size, [Value.int .i64 kd, .int .i64 a, .int .i64 m, .slice bo B.length bc, .slice kao ks.length kcap], 44)) (by simp)).cell 0; have c1 : w7.cell? ⟨wr.heap.size, 1, none⟩ = some (.int .i64 a) := (HP7.out.ex (x := (wr.heap.size, [Value.int .i64 kd, .int .i64 a, .int .i64 m, .slice bo B.length bc, .slice kao ks.length kcap], 44)) (by simp)).cell 1; have c2 : w7.cell? ⟨wr.heap.size, 2, none⟩ = some (.int .i64 m) := (HP7.out.ex (x := (wr.heap.size, [Value.int .i64 kd, .int .i64 a, .int .i64 m, .slice bo B.length bc, .slice kao ks.length kcap], 44)) (by simp)).cell 2; have c3 : w7.cell? ⟨wr.heap.size, 3, none⟩ = some (.slice bo B.length bc) := (HP7.out.ex (x := (wr.heap.size, [Value.int .i64 kd, .int .i64 a, .int .i64 m, .slice bo B.length bc, .slice kao ks.length kcap], 44)) (by simp)).cell 3; have c4 : w7.cell? ⟨wr.heap.size, 4, none⟩ = some (.slice kao ks.length kcap) := (HP7.out.ex (x := (wr.heap.size, [Value.int .i64 kd, .int .i64 a, .int .i64 m, .slice bo B.length bc, .slice kao ks.length kcap], 44)) (by simp)).cell 4
            have b7 := HP7.out.blk
            go_wp2_with (first
              | ((with_reducible refine aw_load (dst := some 155) Try.agg40 rfl b7 HL5.out HLd.out ?_))
              | (go_at_call 21; refine (refWriteR w w7 s n HP7.out.facts.2.2.1 HP7.out.facts.2.1 rv HP7.out.own HP7.out.kept a ha bo bc B HBb.out (by omega) hbc HBs.out HP7.out.facts.2.2.2.2.2.1 HP7.out.facts.2.2.2.2.2.2 (by omega) (by omega)).mono ?_; rintro e w8 ⟨rv2, rfl, hrow, hk8⟩; rw [refL_A]; have hP8 := HP7.out.same hk8; have b8 := hP8.blk; clear c0 c1 c2 c3 c4; have c0 : w8.cell? ⟨wr.heap.size, 0, none⟩ = some (.int .i64 kd) := (hP8.ex (x := (wr.heap.size, [Value.int .i64 kd, .int .i64 a, .int .i64 m, .slice bo B.length bc, .slice kao ks.length kcap], 44)) (by simp)).cell 0; have c1 : w8.cell? ⟨wr.heap.size, 1, none⟩ = some (.int .i64 a) := (hP8.ex (x := (wr.heap.size, [Value.int .i64 kd, .int .i64 a, .int .i64 m, .slice bo B.length bc, .slice kao ks.length kcap], 44)) (by simp)).cell 1; have c2 : w8.cell? ⟨wr.heap.size, 2, none⟩ = some (.int .i64 m) := (hP8.ex (x := (wr.heap.size, [Value.int .i64 kd, .int .i64 a, .int .i64 m, .slice bo B.length bc, .slice kao ks.length kcap], 44)) (by simp)).cell 2; have c3 : w8.cell? ⟨wr.heap.size, 3, none⟩ = some (.slice bo B.length bc) := (hP8.ex (x := (wr.heap.size, [Value.int .i64 kd, .int .i64 a, .int .i64 m, .slice bo B.length bc, .slice kao ks.length kcap], 44)) (by simp)).cell 3; have c4 : w8.cell? ⟨wr.heap.size, 4, none⟩ = some (.slice kao ks.length kcap) := (hP8.ex (x := (wr.heap.size, [Value.int .i64 kd, .int .i64 a, .int .i64 m, .slice bo B.length bc, .slice kao ks.length kcap], 44)) (by simp)).cell 4; have HR1 := hide (rowStep_one (s.writeR n a B).1 hrow HP7.out.slice))
              | ((with_reducible refine aw_store (x := .tmp 9) (M := refL (s.writeR n a B).1 rv2) Try.agg40 rfl rfl (refL_len _ _) HR1.out b8 HL5.out ?_); intro w9 hw9 hk9 hz9; rw [put_whole _ _ (by rw [refL_len, refL_len])] at hw9; have Hz9 := hide hz9; clear hz9; have hP9 := HP7.out.ref hk8 hrow hk9 hw9; clear c0 c1 c2 c3 c4; have c0 : w9.cell? ⟨wr.heap.size, 0, none⟩ = some (.int .i64 kd) := (hP9.ex (x := (wr.heap.size, [Value.int .i64 kd, .int .i64 a, .int .i64 m, .slice bo B.length bc, .slice kao ks.length kcap], 44)) (by simp)).cell 0; have c1 : w9.cell? ⟨wr.heap.size, 1, none⟩ = some (.int .i64 a) := (hP9.ex (x := (wr.heap.size, [Value.int .i64 kd, .int .i64 a, .int .i64 m, .slice bo B.length bc, .slice kao ks.length kcap], 44)) (by simp)).cell 1; have c2 : w9.cell? ⟨wr.heap.size, 2, none⟩ = some (.int .i64 m) := (hP9.ex (x := (wr.heap.size, [Value.int .i64 kd, .int .i64 a, .int .i64 m, .slice bo B.length bc, .slice kao ks.length kcap], 44)) (by simp)).cell 2; have c3 : w9.cell? ⟨wr.heap.size, 3, none⟩ = some (.slice bo B.length bc) := (hP9.ex (x := (wr.heap.size, [Value.int .i64 kd, .int .i64 a, .int .i64 m, .slice bo B.length bc, .slice kao ks.length kcap], 44)) (by simp)).cell 3; have c4 : w9.cell? ⟨wr.heap.size, 4, none⟩ = some (.slice kao ks.length kcap) := (hP9.ex (x := (wr.heap.size, [Value.int .i64 kd, .int .i64 a, .int .i64 m, .slice bo B.length bc, .slice kao ks.length kcap], 44)) (by simp)).cell 4)
              | (go_at_call 11; refine (hP9.dev (fun G h => h.writeR a ha bo bc B HBb.out (by omega) hbc HBs.out (by omega) (by omega))).mono ?_; rintro e w10 ⟨rfl, hP10⟩; clear c0 c1 c2 c3 c4; have c0 : w10.cell? ⟨wr.heap.size, 0, none⟩ = some (.int .i64 kd) := (hP10.ex (x := (wr.heap.size, [Value.int .i64 kd, .int .i64 a, .int .i64 m, .slice bo B.length bc, .slice kao ks.length kcap], 44)) (by simp)).cell 0; have c1 : w10.cell? ⟨wr.heap.size, 1, none⟩ = some (.int .i64 a) := (hP10.ex (x := (wr.heap.size, [Value.int .i64 kd, .int .i64 a, .int .i64 m, .slice bo B.length bc, .slice kao ks.length kcap], 44)) (by simp)).cell 1; have c2 : w10.cell? ⟨wr.heap.size, 2, none⟩ = some (.int .i64 m) := (hP10.ex (x := (wr.heap.size, [Value.int .i64 kd, .int .i64 a, .int .i64 m, .slice bo B.length bc, .slice kao ks.length kcap], 44)) (by simp)).cell 2; have c3 : w10.cell? ⟨wr.heap.size, 3, none⟩ = some (.slice bo B.length bc) := (hP10.ex (x := (wr.heap.size, [Value.int .i64 kd, .int .i64 a, .int .i64 m, .slice bo B.length bc, .slice kao ks.length kcap], 44)) (by simp)).cell 3; have c4 : w10.cell? ⟨wr.heap.size, 4, none⟩ = some (.slice kao ks.length kcap) := (hP10.ex (x := (wr.heap.size, [Value.int .i64 kd, .int .i64 a, .int .i64 m, .slice bo B.length bc, .slice kao ks.length kcap], 44)) (by simp)).cell 4)
              | (with_reducible refine stop_bin .rem ?_))
            have HP10 := hide hP10
            clear hP8 hP9 hP10 hrow b7 b8 hk8 hk9 hw9
            refine hide ?_
            refine wpList_run rfl (r_rem6 (v := IntKind.u64.wrap kd) (q := 1) rfl rfl hv0 HQ.out) ?_
            obtain ⟨ro9, rc9, hsl9⟩ := HP10.out.slice
            have HSl9 := hide hsl9
            clear hsl9
            go_wp2_with fail
            refine hold_frame (p := fun fr => Code.wp Try.prog _ _ fr _) ?_
            intro fr hfr
            have e5 : fr.eval (.tmp 5) = .pointer (some ⟨d, 0, none⟩) := by rw [hfr.out]; rfl
            have e9 : fr.eval (.tmp 9) = .pointer (some ⟨xb, 0, none⟩) := by rw [hfr.out]; rfl
            have hts : fr.tmps.size = 250 := by rw [hfr.out]; rfl
            refine region_held (S := fun U => Blk U xb (refL (s.writeR n a B).1 rv2) 40) Try.mixed ?_
            intro wa hka hheap
            have hPa := HP10.out.same hka
            have hS := hPa.blk
            refine tkD 0 217 (v := .pointer (some ⟨d, 0, none⟩)) rfl rfl (by kernel_rfl) (by kernel_rfl) (by kernel_rfl) (wanted_none rfl) (fun _ _ _ h => h) hS (fun U hU => r_move (by simp [eval_put_ne, eval_put_eq, size_put, hts, e5])) ?_
            refine tkD 3 220 (v := .pointer (some ⟨xb, 0, none⟩)) rfl rfl (by kernel_rfl) (by kernel_rfl) (by kernel_rfl) (wanted_none rfl) (fun _ _ _ h => h) hS (fun U hU => r_fld40 (i := 0) (by decide) (by simp [eval_put_ne, eval_put_eq, size_put, hts, e9])) ?_
            refine tkD 4 221 (v := .string (strV (s.writeR n a B).1.st)) rfl rfl (by kernel_rfl) (by kernel_rfl) (by kernel_rfl) (wanted_none rfl) (fun _ _ _ h => h) hS (fun U hU => r_ld9 (b := xb) (i := 0) (by simp [eval_put_ne, eval_put_eq, size_put, hts]) (hU.cell 0)) ?_
            refine clWD 1 218 rfl rfl (by kernel_rfl) (wanted_none rfl) (r_call1 Try.func17 (by kernel_rfl) rfl rfl (by simp [eval_put_ne, eval_put_eq, size_put, hts])) (hPa.img) ?_
            rintro e wb ⟨g, rfl, hgc, hPb⟩
            have hS1 := hPb.blk
            refine ⟨_, rfl, hS1, ?_⟩
            clear hS
            have hS := hS1
            refine dnD 2 219 (v := .string (strV (s.writeR n a B).1.st)) rfl rfl (by kernel_rfl) (wanted_none rfl) (r_str (b := g) (so := 0) (len := n * 64) (cap := n * 64) (by simp [eval_put_ne, eval_put_eq, size_put, hts]) hgc (by rw [hPb.facts.2.2.1, Nat.mul_comm]) hPb.facts.2.2.2.1) hS1 ?_
            refine dnD 5 222 (v := .bool false) rfl rfl (by kernel_rfl) (wanted_none rfl) (r_neq9 (s := strV (s.writeR n a B).1.st) (by simp [eval_put_ne, eval_put_eq, size_put, hts]) (by simp [eval_put_ne, eval_put_eq, size_put, hts])) hS1 ?_
            refine dnD 6 223 (v := .bool false) rfl rfl (by kernel_rfl) (wanted_none rfl) (r_move (by simp [eval_put_ne, eval_put_eq, size_put, hts])) hS1 ?_
            refine tkD 7 224 (v := .pointer (some ⟨d, 0, none⟩)) rfl rfl (by kernel_rfl) (by kernel_rfl) (by kernel_rfl) (wanted_some (j := 6) (d := 223) (bb := false) rfl rfl rfl (by simp [eval_put_ne, eval_put_eq, size_put, hts]) (by simp [size_put, hts])) (fun _ _ _ h => h) hS (fun U hU => r_move (by simp [eval_put_ne, eval_put_eq, size_put, hts, e5])) ?_
            refine tkD 9 226 (v := .pointer (some ⟨xb, 1, none⟩)) rfl rfl (by kernel_rfl) (by kernel_rfl) (by kernel_rfl) (wanted_some (j := 6) (d := 223) (bb := false) rfl rfl rfl (by simp [eval_put_ne, eval_put_eq, size_put, hts]) (by simp [size_put, hts])) (fun _ _ _ h => h) hS (fun U hU => r_fld40 (i := 1) (by decide) (by simp [eval_put_ne, eval_put_eq, size_put, hts, e9])) ?_
            refine tkD 10 227 (v := .slice ro9 (s.writeR n a B).1.ws.length rc9) rfl rfl (by kernel_rfl) (by kernel_rfl) (by kernel_rfl) (wanted_some (j := 6) (d := 223) (bb := false) rfl rfl rfl (by simp [eval_put_ne, eval_put_eq, size_put, hts]) (by simp [size_put, hts])) (fun _ _ _ h => h) hS (fun U hU => r_ld38 (b := xb) (i := 1) (by simp [eval_put_ne, eval_put_eq, size_put, hts]) ((hU.cell 1).trans (congrArg some HSl9.out))) ?_
            refine tkD 11 228 (v := .int .i64 ((s.writeR n a B).1.ws.length : Int)) rfl rfl (by kernel_rfl) (by kernel_rfl) (by kernel_rfl) (wanted_some (j := 6) (d := 223) (bb := false) rfl rfl rfl (by simp [eval_put_ne, eval_put_eq, size_put, hts]) (by simp [size_put, hts])) (fun _ _ _ h => h) hS (fun U hU => r_len38 (ao := ro9) (c := rc9) (by simp [eval_put_ne, eval_put_eq, size_put, hts])) ?_
            refine clD 8 225 (v := .int .i64 ((s.writeR n a B).1.ws.length : Int)) rfl rfl (by kernel_rfl) (wanted_some (j := 6) (d := 223) (bb := false) rfl rfl rfl (by simp [eval_put_ne, eval_put_eq, size_put, hts]) (by simp [size_put, hts])) (r_call1 Try.func15 (by kernel_rfl) rfl rfl (by simp [eval_put_ne, eval_put_eq, size_put, hts])) (hPb.ask fun G h => h.waiting) hS1 ?_
            refine dnD 12 229 (v := .bool false) rfl rfl (by kernel_rfl) (wanted_some (j := 6) (d := 223) (bb := false) rfl rfl rfl (by simp [eval_put_ne, eval_put_eq, size_put, hts]) (by simp [size_put, hts])) (r_neq3 (i := ((s.writeR n a B).1.ws.length : Int)) (by simp [eval_put_ne, eval_put_eq, size_put, hts]) (by simp [eval_put_ne, eval_put_eq, size_put, hts])) hS1 ?_
            refine dnD 13 230 (v := .bool false) rfl rfl (by kernel_rfl) (wanted_none rfl) (r_pickF (by simp [eval_put_ne, eval_put_eq, size_put, hts]) (by simp [eval_put_ne, eval_put_eq, size_put, hts])) hS1 ?_
            refine dnD 14 231 (v := .bool false) rfl rfl (by kernel_rfl) (wanted_none rfl) (r_move (by simp [eval_put_ne, eval_put_eq, size_put, hts])) hS1 ?_
            refine tkD 15 232 (v := .pointer (some ⟨d, 0, none⟩)) rfl rfl (by kernel_rfl) (by kernel_rfl) (by kernel_rfl) (wanted_some (j := 14) (d := 231) (bb := false) rfl rfl rfl (by simp [eval_put_ne, eval_put_eq, size_put, hts]) (by simp [size_put, hts])) (fun _ _ _ h => h) hS (fun U hU => r_move (by simp [eval_put_ne, eval_put_eq, size_put, hts, e5])) ?_
            refine tkD 17 234 (v := .pointer (some ⟨xb, 2, none⟩)) rfl rfl (by kernel_rfl) (by kernel_rfl) (by kernel_rfl) (wanted_some (j := 14) (d := 231) (bb := false) rfl rfl rfl (by simp [eval_put_ne, eval_put_eq, size_put, hts]) (by simp [size_put, hts])) (fun _ _ _ h => h) hS (fun U hU => r_fld40 (i := 2) (by decide) (by simp [eval_put_ne, eval_put_eq, size_put, hts, e9])) ?_
            refine tkD 18 235 (v := .int .i64 ((s.writeR n a B).1.calls : Int)) rfl rfl (by kernel_rfl) (by kernel_rfl) (by kernel_rfl) (wanted_some (j := 14) (d := 231) (bb := false) rfl rfl rfl (by simp [eval_put_ne, eval_put_eq, size_put, hts]) (by simp [size_put, hts])) (fun _ _ _ h => h) hS (fun U hU => r_ld3 (b := xb) (i := 2) (by simp [eval_put_ne, eval_put_eq, size_put, hts]) (hU.cell 2)) ?_
            refine clD 16 233 (v := .int .i64 ((s.writeR n a B).1.calls : Int)) rfl rfl (by kernel_rfl) (wanted_some (j := 14) (d := 231) (bb := false) rfl rfl rfl (by simp [eval_put_ne, eval_put_eq, size_put, hts]) (by simp [size_put, hts])) (r_call1 Try.func16 (by kernel_rfl) rfl rfl (by simp [eval_put_ne, eval_put_eq, size_put, hts])) (hPb.ask fun G h => h.calls) hS1 ?_
            refine dnD 19 236 (v := .bool false) rfl rfl (by kernel_rfl) (wanted_some (j := 14) (d := 231) (bb := false) rfl rfl rfl (by simp [eval_put_ne, eval_put_eq, size_put, hts]) (by simp [size_put, hts])) (r_neq3 (i := ((s.writeR n a B).1.calls : Int)) (by simp [eval_put_ne, eval_put_eq, size_put, hts]) (by simp [eval_put_ne, eval_put_eq, size_put, hts])) hS1 ?_
            refine dnD 20 237 (v := .bool false) rfl rfl (by kernel_rfl) (wanted_none rfl) (r_pickF (by simp [eval_put_ne, eval_put_eq, size_put, hts]) (by simp [eval_put_ne, eval_put_eq, size_put, hts])) hS1 ?_
            refine dnD 21 238 (v := .bool false) rfl rfl (by kernel_rfl) (wanted_none rfl) (r_move (by simp [eval_put_ne, eval_put_eq, size_put, hts])) hS1 ?_
            refine tkD 22 239 (v := .pointer (some ⟨d, 0, none⟩)) rfl rfl (by kernel_rfl) (by kernel_rfl) (by kernel_rfl) (wanted_some (j := 21) (d := 238) (bb := false) rfl rfl rfl (by simp [eval_put_ne, eval_put_eq, size_put, hts]) (by simp [size_put, hts])) (fun _ _ _ h => h) hS (fun U hU => r_move (by simp [eval_put_ne, eval_put_eq, size_put, hts, e5])) ?_
            refine tkD 24 241 (v := .pointer (some ⟨xb, 4, none⟩)) rfl rfl (by kernel_rfl) (by kernel_rfl) (by kernel_rfl) (wanted_some (j := 21) (d := 238) (bb := false) rfl rfl rfl (by simp [eval_put_ne, eval_put_eq, size_put, hts]) (by simp [size_put, hts])) (fun _ _ _ h => h) hS (fun U hU => r_fld40 (i := 4) (by decide) (by simp [eval_put_ne, eval_put_eq, size_put, hts, e9])) ?_
            refine tkD 25 242 (v := .bool (s.writeR n a B).1.off) rfl rfl (by kernel_rfl) (by kernel_rfl) (by kernel_rfl) (wanted_some (j := 21) (d := 238) (bb := false) rfl rfl rfl (by simp [eval_put_ne, eval_put_eq, size_put, hts]) (by simp [size_put, hts])) (fun _ _ _ h => h) hS (fun U hU => r_ld4 (b := xb) (i := 4) (by simp [eval_put_ne, eval_put_eq, size_put, hts]) (hU.cell 4)) ?_
            refine clD 23 240 (v := .bool (s.writeR n a B).1.off) rfl rfl (by kernel_rfl) (wanted_some (j := 21) (d := 238) (bb := false) rfl rfl rfl (by simp [eval_put_ne, eval_put_eq, size_put, hts]) (by simp [size_put, hts])) (r_call1 Try.func18 (by kernel_rfl) rfl rfl (by simp [eval_put_ne, eval_put_eq, size_put, hts])) (hPb.ask fun G h => h.isOff) hS1 ?_
            refine dnD 26 243 (v := .bool false) rfl rfl (by kernel_rfl) (wanted_some (j := 21) (d := 238) (bb := false) rfl rfl rfl (by simp [eval_put_ne, eval_put_eq, size_put, hts]) (by simp [size_put, hts])) (r_neq4 (i := (s.writeR n a B).1.off) (by simp [eval_put_ne, eval_put_eq, size_put, hts]) (by simp [eval_put_ne, eval_put_eq, size_put, hts])) hS1 ?_
            refine dnD 27 244 (v := .bool false) rfl rfl (by kernel_rfl) (wanted_none rfl) (r_pickF (by simp [eval_put_ne, eval_put_eq, size_put, hts]) (by simp [eval_put_ne, eval_put_eq, size_put, hts])) hS1 ?_
            refine wpAnyH_done (by kernel_rfl) ?_ _
            clear e5 e9 hts hS hS1 hheap hka hPa hgc
            rw [hfr.out]
            clear hfr
            simp only [put_lit, List.set_cons_succ, List.set_cons_zero]
            have HPb := hide hPb.bare
            clear hPb
            go_wp2
            go_roundw
            case rel => exact ⟨k + 1, (s.writeR n a B).1, rv2, by omega, by omega, by go_num, HPb.out, by have := (writeR_le s n a B (by omega)).1; omega, by have := (writeR_le s n a B (by omega)).2; omega⟩
            case measure => simp [intOf]; omega
          case k2 =>
            rintro rfl
            have c0 : w7.cell? ⟨wr.heap.size, 0, none⟩ = some (.int .i64 kd) := (HP7.out.ex (x := (wr.heap.size, [Value.int .i64 kd, .int .i64 a, .int .i64 m, .slice bo B.length bc, .slice kao ks.length kcap], 44)) (by simp)).cell 0; have c1 : w7.cell? ⟨wr.heap.size, 1, none⟩ = some (.int .i64 a) := (HP7.out.ex (x := (wr.heap.size, [Value.int .i64 kd, .int .i64 a, .int .i64 m, .slice bo B.length bc, .slice kao ks.length kcap], 44)) (by simp)).cell 1; have c2 : w7.cell? ⟨wr.heap.size, 2, none⟩ = some (.int .i64 m) := (HP7.out.ex (x := (wr.heap.size, [Value.int .i64 kd, .int .i64 a, .int .i64 m, .slice bo B.length bc, .slice kao ks.length kcap], 44)) (by simp)).cell 2; have c3 : w7.cell? ⟨wr.heap.size, 3, none⟩ = some (.slice bo B.length bc) := (HP7.out.ex (x := (wr.heap.size, [Value.int .i64 kd, .int .i64 a, .int .i64 m, .slice bo B.length bc, .slice kao ks.length kcap], 44)) (by simp)).cell 3; have c4 : w7.cell? ⟨wr.heap.size, 4, none⟩ = some (.slice kao ks.length kcap) := (HP7.out.ex (x := (wr.heap.size, [Value.int .i64 kd, .int .i64 a, .int .i64 m, .slice bo B.length bc, .slice kao ks.length kcap], 44)) (by simp)).cell 4
            have b7 := HP7.out.blk
            go_wp2_with (first
              | ((with_reducible refine aw_load (dst := some 172) Try.agg40 rfl b7 HL5.out HLd.out ?_))
              | (go_at_call 22; refine (refFlushR w7 s n HP7.out.facts.2.2.1 HP7.out.facts.2.1 rv HP7.out.own HP7.out.facts.2.2.2.2.1 HP7.out.facts.2.2.2.1 HP7.out.facts.2.2.2.2.2.1 HP7.out.facts.2.2.2.2.2.2 (by omega)).mono ?_; rintro e w8 ⟨rv2, rfl, hrow, hk8⟩; rw [refL_A]; have hP8 := HP7.out.same hk8; have b8 := hP8.blk; clear c0 c1 c2 c3 c4; have c0 : w8.cell? ⟨wr.heap.size, 0, none⟩ = some (.int .i64 kd) := (hP8.ex (x := (wr.heap.size, [Value.int .i64 kd, .int .i64 a, .int .i64 m, .slice bo B.length bc, .slice kao ks.length kcap], 44)) (by simp)).cell 0; have c1 : w8.cell? ⟨wr.heap.size, 1, none⟩ = some (.int .i64 a) := (hP8.ex (x := (wr.heap.size, [Value.int .i64 kd, .int .i64 a, .int .i64 m, .slice bo B.length bc, .slice kao ks.length kcap], 44)) (by simp)).cell 1; have c2 : w8.cell? ⟨wr.heap.size, 2, none⟩ = some (.int .i64 m) := (hP8.ex (x := (wr.heap.size, [Value.int .i64 kd, .int .i64 a, .int .i64 m, .slice bo B.length bc, .slice kao ks.length kcap], 44)) (by simp)).cell 2; have c3 : w8.cell? ⟨wr.heap.size, 3, none⟩ = some (.slice bo B.length bc) := (hP8.ex (x := (wr.heap.size, [Value.int .i64 kd, .int .i64 a, .int .i64 m, .slice bo B.length bc, .slice kao ks.length kcap], 44)) (by simp)).cell 3; have c4 : w8.cell? ⟨wr.heap.size, 4, none⟩ = some (.slice kao ks.length kcap) := (hP8.ex (x := (wr.heap.size, [Value.int .i64 kd, .int .i64 a, .int .i64 m, .slice bo B.length bc, .slice kao ks.length kcap], 44)) (by simp)).cell 4; have HR1 := hide (rowStep_one s.flushed hrow HP7.out.slice))
              | ((with_reducible refine aw_store (x := .tmp 9) (M := refL s.flushed rv2) Try.agg40 rfl rfl (refL_len _ _) HR1.out b8 HL5.out ?_); intro w9 hw9 hk9 hz9; rw [put_whole _ _ (by rw [refL_len, refL_len])] at hw9; have Hz9 := hide hz9; clear hz9; have hP9 := HP7.out.ref hk8 hrow hk9 hw9; clear c0 c1 c2 c3 c4; have c0 : w9.cell? ⟨wr.heap.size, 0, none⟩ = some (.int .i64 kd) := (hP9.ex (x := (wr.heap.size, [Value.int .i64 kd, .int .i64 a, .int .i64 m, .slice bo B.length bc, .slice kao ks.length kcap], 44)) (by simp)).cell 0; have c1 : w9.cell? ⟨wr.heap.size, 1, none⟩ = some (.int .i64 a) := (hP9.ex (x := (wr.heap.size, [Value.int .i64 kd, .int .i64 a, .int .i64 m, .slice bo B.length bc, .slice kao ks.length kcap], 44)) (by simp)).cell 1; have c2 : w9.cell? ⟨wr.heap.size, 2, none⟩ = some (.int .i64 m) := (hP9.ex (x := (wr.heap.size, [Value.int .i64 kd, .int .i64 a, .int .i64 m, .slice bo B.length bc, .slice kao ks.length kcap], 44)) (by simp)).cell 2; have c3 : w9.cell? ⟨wr.heap.size, 3, none⟩ = some (.slice bo B.length bc) := (hP9.ex (x := (wr.heap.size, [Value.int .i64 kd, .int .i64 a, .int .i64 m, .slice bo B.length bc, .slice kao ks.length kcap], 44)) (by simp)).cell 3; have c4 : w9.cell? ⟨wr.heap.size, 4, none⟩ = some (.slice kao ks.length kcap) := (hP9.ex (x := (wr.heap.size, [Value.int .i64 kd, .int .i64 a, .int .i64 m, .slice bo B.length bc, .slice kao ks.length kcap], 44)) (by simp)).cell 4)
              | (go_at_call 12; refine (hP9.dev (fun G h => h.flush (by omega))).mono ?_; rintro e w10 ⟨rfl, hP10⟩; clear c0 c1 c2 c3 c4; have c0 : w10.cell? ⟨wr.heap.size, 0, none⟩ = some (.int .i64 kd) := (hP10.ex (x := (wr.heap.size, [Value.int .i64 kd, .int .i64 a, .int .i64 m, .slice bo B.length bc, .slice kao ks.length kcap], 44)) (by simp)).cell 0; have c1 : w10.cell? ⟨wr.heap.size, 1, none⟩ = some (.int .i64 a) := (hP10.ex (x := (wr.heap.size, [Value.int .i64 kd, .int .i64 a, .int .i64 m, .slice bo B.length bc, .slice kao ks.length kcap], 44)) (by simp)).cell 1; have c2 : w10.cell? ⟨wr.heap.size, 2, none⟩ = some (.int .i64 m) := (hP10.ex (x := (wr.heap.size, [Value.int .i64 kd, .int .i64 a, .int .i64 m, .slice bo B.length bc, .slice kao ks.length kcap], 44)) (by simp)).cell 2; have c3 : w10.cell? ⟨wr.heap.size, 3, none⟩ = some (.slice bo B.length bc) := (hP10.ex (x := (wr.heap.size, [Value.int .i64 kd, .int .i64 a, .int .i64 m, .slice bo B.length bc, .slice kao ks.length kcap], 44)) (by simp)).cell 3; have c4 : w10.cell? ⟨wr.heap.size, 4, none⟩ = some (.slice kao ks.length kcap) := (hP10.ex (x := (wr.heap.size, [Value.int .i64 kd, .int .i64 a, .int .i64 m, .slice bo B.length bc, .slice kao ks.length kcap], 44)) (by simp)).cell 4)
              | (with_reducible refine stop_bin .rem ?_))
            have HP10 := hide hP10
            clear hP8 hP9 hP10 hrow b7 b8 hk8 hk9 hw9
            refine hide ?_
            refine wpList_run rfl (r_rem6 (v := IntKind.u64.wrap kd) (q := 2) rfl rfl hv0 HQ.out) ?_
            obtain ⟨ro9, rc9, hsl9⟩ := HP10.out.slice
            have HSl9 := hide hsl9
            clear hsl9
            go_wp2_with fail
            refine hold_frame (p := fun fr => Code.wp Try.prog _ _ fr _) ?_
            intro fr hfr
            have e5 : fr.eval (.tmp 5) = .pointer (some ⟨d, 0, none⟩) := by rw [hfr.out]; rfl
            have e9 : fr.eval (.tmp 9) = .pointer (some ⟨xb, 0, none⟩) := by rw [hfr.out]; rfl
            have hts : fr.tmps.size = 250 := by rw [hfr.out]; rfl
            refine region_held (S := fun U => Blk U xb (refL s.flushed rv2) 40) Try.mixed ?_
            intro wa hka hheap
            have hPa := HP10.out.same hka
            have hS := hPa.blk
            refine tkD 0 217 (v := .pointer (some ⟨d, 0, none⟩)) rfl rfl (by kernel_rfl) (by kernel_rfl) (by kernel_rfl) (wanted_none rfl) (fun _ _ _ h => h) hS (fun U hU => r_move (by simp [eval_put_ne, eval_put_eq, size_put, hts, e5])) ?_
            refine tkD 3 220 (v := .pointer (some ⟨xb, 0, none⟩)) rfl rfl (by kernel_rfl) (by kernel_rfl) (by kernel_rfl) (wanted_none rfl) (fun _ _ _ h => h) hS (fun U hU => r_fld40 (i := 0) (by decide) (by simp [eval_put_ne, eval_put_eq, size_put, hts, e9])) ?_
            refine tkD 4 221 (v := .string (strV s.flushed.st)) rfl rfl (by kernel_rfl) (by kernel_rfl) (by kernel_rfl) (wanted_none rfl) (fun _ _ _ h => h) hS (fun U hU => r_ld9 (b := xb) (i := 0) (by simp [eval_put_ne, eval_put_eq, size_put, hts]) (hU.cell 0)) ?_
            refine clWD 1 218 rfl rfl (by kernel_rfl) (wanted_none rfl) (r_call1 Try.func17 (by kernel_rfl) rfl rfl (by simp [eval_put_ne, eval_put_eq, size_put, hts])) (hPa.img) ?_
            rintro e wb ⟨g, rfl, hgc, hPb⟩
            have hS1 := hPb.blk
            refine ⟨_, rfl, hS1, ?_⟩
            clear hS
            have hS := hS1
            refine dnD 2 219 (v := .string (strV s.flushed.st)) rfl rfl (by kernel_rfl) (wanted_none rfl) (r_str (b := g) (so := 0) (len := n * 64) (cap := n * 64) (by simp [eval_put_ne, eval_put_eq, size_put, hts]) hgc (by rw [hPb.facts.2.2.1, Nat.mul_comm]) hPb.facts.2.2.2.1) hS1 ?_
            refine dnD 5 222 (v := .bool false) rfl rfl (by kernel_rfl) (wanted_none rfl) (r_neq9 (s := strV s.flushed.st) (by simp [eval_put_ne, eval_put_eq, size_put, hts]) (by simp [eval_put_ne, eval_put_eq, size_put, hts])) hS1 ?_
            refine dnD 6 223 (v := .bool false) rfl rfl (by kernel_rfl) (wanted_none rfl) (r_move (by simp [eval_put_ne, eval_put_eq, size_put, hts])) hS1 ?_
            refine tkD 7 224 (v := .pointer (some ⟨d, 0, none⟩)) rfl rfl (by kernel_rfl) (by kernel_rfl) (by kernel_rfl) (wanted_some (j := 6) (d := 223) (bb := false) rfl rfl rfl (by simp [eval_put_ne, eval_put_eq, size_put, hts]) (by simp [size_put, hts])) (fun _ _ _ h => h) hS (fun U hU => r_move (by simp [eval_put_ne, eval_put_eq, size_put, hts, e5])) ?_
            refine tkD 9 226 (v := .pointer (some ⟨xb, 1, none⟩)) rfl rfl (by kernel_rfl) (by kernel_rfl) (by kernel_rfl) (wanted_some (j := 6) (d := 223) (bb := false) rfl rfl rfl (by simp [eval_put_ne, eval_put_eq, size_put, hts]) (by simp [size_put, hts])) (fun _ _ _ h => h) hS (fun U hU => r_fld40 (i := 1) (by decide) (by simp [eval_put_ne, eval_put_eq, size_put, hts, e9])) ?_
            refine tkD 10 227 (v := .slice ro9 s.flushed.ws.length rc9) rfl rfl (by kernel_rfl) (by kernel_rfl) (by kernel_rfl) (wanted_some (j := 6) (d := 223) (bb := false) rfl rfl rfl (by simp [eval_put_ne, eval_put_eq, size_put, hts]) (by simp [size_put, hts])) (fun _ _ _ h => h) hS (fun U hU => r_ld38 (b := xb) (i := 1) (by simp [eval_put_ne, eval_put_eq, size_put, hts]) ((hU.cell 1).trans (congrArg some HSl9.out))) ?_
            refine tkD 11 228 (v := .int .i64 (s.flushed.ws.length : Int)) rfl rfl (by kernel_rfl) (by kernel_rfl) (by kernel_rfl) (wanted_some (j := 6) (d := 223) (bb := false) rfl rfl rfl (by simp [eval_put_ne, eval_put_eq, size_put, hts]) (by simp [size_put, hts])) (fun _ _ _ h => h) hS (fun U hU => r_len38 (ao := ro9) (c := rc9) (by simp [eval_put_ne, eval_put_eq, size_put, hts])) ?_
            refine clD 8 225 (v := .int .i64 (s.flushed.ws.length : Int)) rfl rfl (by kernel_rfl) (wanted_some (j := 6) (d := 223) (bb := false) rfl rfl rfl (by simp [eval_put_ne, eval_put_eq, size_put, hts]) (by simp [size_put, hts])) (r_call1 Try.func15 (by kernel_rfl) rfl rfl (by simp [eval_put_ne, eval_put_eq, size_put, hts])) (hPb.ask fun G h => h.waiting) hS1 ?_
            refine dnD 12 229 (v := .bool false) rfl rfl (by kernel_rfl) (wanted_some (j := 6) (d := 223) (bb := false) rfl rfl rfl (by simp [eval_put_ne, eval_put_eq, size_put, hts]) (by simp [size_put, hts])) (r_neq3 (i := (s.flushed.ws.length : Int)) (by simp [eval_put_ne, eval_put_eq, size_put, hts]) (by simp [eval_put_ne, eval_put_eq, size_put, hts])) hS1 ?_
            refine dnD 13 230 (v := .bool false) rfl rfl (by kernel_rfl) (wanted_none rfl) (r_pickF (by simp [eval_put_ne, eval_put_eq, size_put, hts]) (by simp [eval_put_ne, eval_put_eq, size_put, hts])) hS1 ?_
            refine dnD 14 231 (v := .bool false) rfl rfl (by kernel_rfl) (wanted_none rfl) (r_move (by simp [eval_put_ne, eval_put_eq, size_put, hts])) hS1 ?_
            refine tkD 15 232 (v := .pointer (some ⟨d, 0, none⟩)) rfl rfl (by kernel_rfl) (by kernel_rfl) (by kernel_rfl) (wanted_some (j := 14) (d := 231) (bb := false) rfl rfl rfl (by simp [eval_put_ne, eval_put_eq, size_put, hts]) (by simp [size_put, hts])) (fun _ _ _ h => h) hS (fun U hU => r_move (by simp [eval_put_ne, eval_put_eq, size_put, hts, e5])) ?_
            refine tkD 17 234 (v := .pointer (some ⟨xb, 2, none⟩)) rfl rfl (by kernel_rfl) (by kernel_rfl) (by kernel_rfl) (wanted_some (j := 14) (d := 231) (bb := false) rfl rfl rfl (by simp [eval_put_ne, eval_put_eq, size_put, hts]) (by simp [size_put, hts])) (fun _ _ _ h => h) hS (fun U hU => r_fld40 (i := 2) (by decide) (by simp [eval_put_ne, eval_put_eq, size_put, hts, e9])) ?_
            refine tkD 18 235 (v := .int .i64 (s.flushed.calls : Int)) rfl rfl (by kernel_rfl) (by kernel_rfl) (by kernel_rfl) (wanted_some (j := 14) (d := 231) (bb := false) rfl rfl rfl (by simp [eval_put_ne, eval_put_eq, size_put, hts]) (by simp [size_put, hts])) (fun _ _ _ h => h) hS (fun U hU => r_ld3 (b := xb) (i := 2) (by simp [eval_put_ne, eval_put_eq, size_put, hts]) (hU.cell 2)) ?_
            refine clD 16 233 (v := .int .i64 (s.flushed.calls : Int)) rfl rfl (by kernel_rfl) (wanted_some (j := 14) (d := 231) (bb := false) rfl rfl rfl (by simp [eval_put_ne, eval_put_eq, size_put, hts]) (by simp [size_put, hts])) (r_call1 Try.func16 (by kernel_rfl) rfl rfl (by simp [eval_put_ne, eval_put_eq, size_put, hts])) (hPb.ask fun G h => h.calls) hS1 ?_
            refine dnD 19 236 (v := .bool false) rfl rfl (by kernel_rfl) (wanted_some (j := 14) (d := 231) (bb := false) rfl rfl rfl (by simp [eval_put_ne, eval_put_eq, size_put, hts]) (by simp [size_put, hts])) (r_neq3 (i := (s.flushed.calls : Int)) (by simp [eval_put_ne, eval_put_eq, size_put, hts]) (by simp [eval_put_ne, eval_put_eq, size_put, hts])) hS1 ?_
            refine dnD 20 237 (v := .bool false) rfl rfl (by kernel_rfl) (wanted_none rfl) (r_pickF (by simp [eval_put_ne, eval_put_eq, size_put, hts]) (by simp [eval_put_ne, eval_put_eq, size_put, hts])) hS1 ?_
            refine dnD 21 238 (v := .bool false) rfl rfl (by kernel_rfl) (wanted_none rfl) (r_move (by simp [eval_put_ne, eval_put_eq, size_put, hts])) hS1 ?_
            refine tkD 22 239 (v := .pointer (some ⟨d, 0, none⟩)) rfl rfl (by kernel_rfl) (by kernel_rfl) (by kernel_rfl) (wanted_some (j := 21) (d := 238) (bb := false) rfl rfl rfl (by simp [eval_put_ne, eval_put_eq, size_put, hts]) (by simp [size_put, hts])) (fun _ _ _ h => h) hS (fun U hU => r_move (by simp [eval_put_ne, eval_put_eq, size_put, hts, e5])) ?_
            refine tkD 24 241 (v := .pointer (some ⟨xb, 4, none⟩)) rfl rfl (by kernel_rfl) (by kernel_rfl) (by kernel_rfl) (wanted_some (j := 21) (d := 238) (bb := false) rfl rfl rfl (by simp [eval_put_ne, eval_put_eq, size_put, hts]) (by simp [size_put, hts])) (fun _ _ _ h => h) hS (fun U hU => r_fld40 (i := 4) (by decide) (by simp [eval_put_ne, eval_put_eq, size_put, hts, e9])) ?_
            refine tkD 25 242 (v := .bool s.flushed.off) rfl rfl (by kernel_rfl) (by kernel_rfl) (by kernel_rfl) (wanted_some (j := 21) (d := 238) (bb := false) rfl rfl rfl (by simp [eval_put_ne, eval_put_eq, size_put, hts]) (by simp [size_put, hts])) (fun _ _ _ h => h) hS (fun U hU => r_ld4 (b := xb) (i := 4) (by simp [eval_put_ne, eval_put_eq, size_put, hts]) (hU.cell 4)) ?_
            refine clD 23 240 (v := .bool s.flushed.off) rfl rfl (by kernel_rfl) (wanted_some (j := 21) (d := 238) (bb := false) rfl rfl rfl (by simp [eval_put_ne, eval_put_eq, size_put, hts]) (by simp [size_put, hts])) (r_call1 Try.func18 (by kernel_rfl) rfl rfl (by simp [eval_put_ne, eval_put_eq, size_put, hts])) (hPb.ask fun G h => h.isOff) hS1 ?_
            refine dnD 26 243 (v := .bool false) rfl rfl (by kernel_rfl) (wanted_some (j := 21) (d := 238) (bb := false) rfl rfl rfl (by simp [eval_put_ne, eval_put_eq, size_put, hts]) (by simp [size_put, hts])) (r_neq4 (i := s.flushed.off) (by simp [eval_put_ne, eval_put_eq, size_put, hts]) (by simp [eval_put_ne, eval_put_eq, size_put, hts])) hS1 ?_
            refine dnD 27 244 (v := .bool false) rfl rfl (by kernel_rfl) (wanted_none rfl) (r_pickF (by simp [eval_put_ne, eval_put_eq, size_put, hts]) (by simp [eval_put_ne, eval_put_eq, size_put, hts])) hS1 ?_
            refine wpAnyH_done (by kernel_rfl) ?_ _
            clear e5 e9 hts hS hS1 hheap hka hPa hgc
            rw [hfr.out]
            clear hfr
            simp only [put_lit, List.set_cons_succ, List.set_cons_zero]
            have HPb := hide hPb.bare
            clear hPb
            go_wp2
            go_roundw
            case rel => exact ⟨k + 1, s.flushed, rv2, by omega, by omega, by go_num, HPb.out, by have := (flushed_le s).1; omega, by have := (flushed_le s).2; omega⟩
            case measure => simp [intOf]; omega
          case k3 =>
            rintro rfl
            by_cases hmm : m < -1
            ·
              have c0 : w7.cell? ⟨wr.heap.size, 0, none⟩ = some (.int .i64 kd) := (HP7.out.ex (x := (wr.heap.size, [Value.int .i64 kd, .int .i64 a, .int .i64 m, .slice bo B.length bc, .slice kao ks.length kcap], 44)) (by simp)).cell 0; have c1 : w7.cell? ⟨wr.heap.size, 1, none⟩ = some (.int .i64 a) := (HP7.out.ex (x := (wr.heap.size, [Value.int .i64 kd, .int .i64 a, .int .i64 m, .slice bo B.length bc, .slice kao ks.length kcap], 44)) (by simp)).cell 1; have c2 : w7.cell? ⟨wr.heap.size, 2, none⟩ = some (.int .i64 m) := (HP7.out.ex (x := (wr.heap.size, [Value.int .i64 kd, .int .i64 a, .int .i64 m, .slice bo B.length bc, .slice kao ks.length kcap], 44)) (by simp)).cell 2; have c3 : w7.cell? ⟨wr.heap.size, 3, none⟩ = some (.slice bo B.length bc) := (HP7.out.ex (x := (wr.heap.size, [Value.int .i64 kd, .int .i64 a, .int .i64 m, .slice bo B.length bc, .slice kao ks.length kcap], 44)) (by simp)).cell 3; have c4 : w7.cell? ⟨wr.heap.size, 4, none⟩ = some (.slice kao ks.length kcap) := (HP7.out.ex (x := (wr.heap.size, [Value.int .i64 kd, .int .i64 a, .int .i64 m, .slice bo B.length bc, .slice kao ks.length kcap], 44)) (by simp)).cell 4
              have b73 : w7.cell? ⟨xb, 3, none⟩ = some (.int .i64 s.left) := HP7.out.blk.cell 3
              have f73 := HP7.out.blk.frozen 3
              have hmL : max m (-1) = (-1) := by omega
              have hP8 : Pl w (w7.setCell ⟨xb, 3, none⟩ (.int .i64 (-1))) d xb n s { s with left := max m (-1) } rv [(wr.heap.size, [Value.int .i64 kd, .int .i64 a, .int .i64 m, .slice bo B.length bc, .slice kao ks.length kcap], 44)] := by
                have h := HP7.out.left (max m (-1))
                have hw : w7.setCell ⟨xb, 3, none⟩ (.int .i64 (max m (-1))) = (w7.setCell ⟨xb, 3, none⟩ (.int .i64 (-1))) := by rw [hmL]
                rw [hw] at h
                exact h
              clear hmL
              have cx0 : (w7.setCell ⟨xb, 3, none⟩ (.int .i64 (-1))).cell? ⟨wr.heap.size, 0, none⟩ = some (.int .i64 kd) := (hP8.ex (x := (wr.heap.size, [Value.int .i64 kd, .int .i64 a, .int .i64 m, .slice bo B.length bc, .slice kao ks.length kcap], 44)) (by simp)).cell 0; have cx1 : (w7.setCell ⟨xb, 3, none⟩ (.int .i64 (-1))).cell? ⟨wr.heap.size, 1, none⟩ = some (.int .i64 a) := (hP8.ex (x := (wr.heap.size, [Value.int .i64 kd, .int .i64 a, .int .i64 m, .slice bo B.length bc, .slice kao ks.length kcap], 44)) (by simp)).cell 1; have cx2 : (w7.setCell ⟨xb, 3, none⟩ (.int .i64 (-1))).cell? ⟨wr.heap.size, 2, none⟩ = some (.int .i64 m) := (hP8.ex (x := (wr.heap.size, [Value.int .i64 kd, .int .i64 a, .int .i64 m, .slice bo B.length bc, .slice kao ks.length kcap], 44)) (by simp)).cell 2; have cx3 : (w7.setCell ⟨xb, 3, none⟩ (.int .i64 (-1))).cell? ⟨wr.heap.size, 3, none⟩ = some (.slice bo B.length bc) := (hP8.ex (x := (wr.heap.size, [Value.int .i64 kd, .int .i64 a, .int .i64 m, .slice bo B.length bc, .slice kao ks.length kcap], 44)) (by simp)).cell 3; have cx4 : (w7.setCell ⟨xb, 3, none⟩ (.int .i64 (-1))).cell? ⟨wr.heap.size, 4, none⟩ = some (.slice kao ks.length kcap) := (hP8.ex (x := (wr.heap.size, [Value.int .i64 kd, .int .i64 a, .int .i64 m, .slice bo B.length bc, .slice kao ks.length kcap], 44)) (by simp)).cell 4
              go_wp2_with (first
                | (go_at_call 9; refine (hP8.dev (fun G h => h.limit m hm)).mono ?_; rintro e w10 ⟨rfl, hP10⟩; clear c0 c1 c2 c3 c4; clear cx0 cx1 cx2 cx3 cx4; have c0 : w10.cell? ⟨wr.heap.size, 0, none⟩ = some (.int .i64 kd) := (hP10.ex (x := (wr.heap.size, [Value.int .i64 kd, .int .i64 a, .int .i64 m, .slice bo B.length bc, .slice kao ks.length kcap], 44)) (by simp)).cell 0; have c1 : w10.cell? ⟨wr.heap.size, 1, none⟩ = some (.int .i64 a) := (hP10.ex (x := (wr.heap.size, [Value.int .i64 kd, .int .i64 a, .int .i64 m, .slice bo B.length bc, .slice kao ks.length kcap], 44)) (by simp)).cell 1; have c2 : w10.cell? ⟨wr.heap.size, 2, none⟩ = some (.int .i64 m) := (hP10.ex (x := (wr.heap.size, [Value.int .i64 kd, .int .i64 a, .int .i64 m, .slice bo B.length bc, .slice kao ks.length kcap], 44)) (by simp)).cell 2; have c3 : w10.cell? ⟨wr.heap.size, 3, none⟩ = some (.slice bo B.length bc) := (hP10.ex (x := (wr.heap.size, [Value.int .i64 kd, .int .i64 a, .int .i64 m, .slice bo B.length bc, .slice kao ks.length kcap], 44)) (by simp)).cell 3; have c4 : w10.cell? ⟨wr.heap.size, 4, none⟩ = some (.slice kao ks.length kcap) := (hP10.ex (x := (wr.heap.size, [Value.int .i64 kd, .int .i64 a, .int .i64 m, .slice bo B.length bc, .slice kao ks.length kcap], 44)) (by simp)).cell 4)
                | (with_reducible refine stop_bin .rem ?_))
              obtain ⟨s3, hs3⟩ : ∃ s3 : DS, s3 = { s with left := max m (-1) } := ⟨_, rfl⟩
              rw [← hs3] at hP10
              have hs3c : s3.calls ≤ k := by rw [hs3]; exact hcl
              have hs3w : s3.ws.length ≤ 32 * k := by rw [hs3]; exact hwl
              have HP10 := hide hP10
              clear hP8 hP10 b73 f73 hs3
              refine hide ?_
              refine wpList_run rfl (r_rem6 (v := IntKind.u64.wrap kd) (q := 3) rfl rfl hv0 HQ.out) ?_
              obtain ⟨ro9, rc9, hsl9⟩ := HP10.out.slice
              have HSl9 := hide hsl9
              clear hsl9
              go_wp2_with fail
              refine hold_frame (p := fun fr => Code.wp Try.prog _ _ fr _) ?_
              intro fr hfr
              have e5 : fr.eval (.tmp 5) = .pointer (some ⟨d, 0, none⟩) := by rw [hfr.out]; rfl
              have e9 : fr.eval (.tmp 9) = .pointer (some ⟨xb, 0, none⟩) := by rw [hfr.out]; rfl
              have hts : fr.tmps.size = 250 := by rw [hfr.out]; rfl
              refine region_held (S := fun U => Blk U xb (refL s3 rv) 40) Try.mixed ?_
              intro wa hka hheap
              have hPa := HP10.out.same hka
              have hS := hPa.blk
              refine tkD 0 217 (v := .pointer (some ⟨d, 0, none⟩)) rfl rfl (by kernel_rfl) (by kernel_rfl) (by kernel_rfl) (wanted_none rfl) (fun _ _ _ h => h) hS (fun U hU => r_move (by simp [eval_put_ne, eval_put_eq, size_put, hts, e5])) ?_
              refine tkD 3 220 (v := .pointer (some ⟨xb, 0, none⟩)) rfl rfl (by kernel_rfl) (by kernel_rfl) (by kernel_rfl) (wanted_none rfl) (fun _ _ _ h => h) hS (fun U hU => r_fld40 (i := 0) (by decide) (by simp [eval_put_ne, eval_put_eq, size_put, hts, e9])) ?_
              refine tkD 4 221 (v := .string (strV s3.st)) rfl rfl (by kernel_rfl) (by kernel_rfl) (by kernel_rfl) (wanted_none rfl) (fun _ _ _ h => h) hS (fun U hU => r_ld9 (b := xb) (i := 0) (by simp [eval_put_ne, eval_put_eq, size_put, hts]) (hU.cell 0)) ?_
              refine clWD 1 218 rfl rfl (by kernel_rfl) (wanted_none rfl) (r_call1 Try.func17 (by kernel_rfl) rfl rfl (by simp [eval_put_ne, eval_put_eq, size_put, hts])) (hPa.img) ?_
              rintro e wb ⟨g, rfl, hgc, hPb⟩
              have hS1 := hPb.blk
              refine ⟨_, rfl, hS1, ?_⟩
              clear hS
              have hS := hS1
              refine dnD 2 219 (v := .string (strV s3.st)) rfl rfl (by kernel_rfl) (wanted_none rfl) (r_str (b := g) (so := 0) (len := n * 64) (cap := n * 64) (by simp [eval_put_ne, eval_put_eq, size_put, hts]) hgc (by rw [hPb.facts.2.2.1, Nat.mul_comm]) hPb.facts.2.2.2.1) hS1 ?_
              refine dnD 5 222 (v := .bool false) rfl rfl (by kernel_rfl) (wanted_none rfl) (r_neq9 (s := strV s3.st) (by simp [eval_put_ne, eval_put_eq, size_put, hts]) (by simp [eval_put_ne, eval_put_eq, size_put, hts])) hS1 ?_
              refine dnD 6 223 (v := .bool false) rfl rfl (by kernel_rfl) (wanted_none rfl) (r_move (by simp [eval_put_ne, eval_put_eq, size_put, hts])) hS1 ?_
              refine tkD 7 224 (v := .pointer (some ⟨d, 0, none⟩)) rfl rfl (by kernel_rfl) (by kernel_rfl) (by kernel_rfl) (wanted_some (j := 6) (d := 223) (bb := false) rfl rfl rfl (by simp [eval_put_ne, eval_put_eq, size_put, hts]) (by simp [size_put, hts])) (fun _ _ _ h => h) hS (fun U hU => r_move (by simp [eval_put_ne, eval_put_eq, size_put, hts, e5])) ?_
              refine tkD 9 226 (v := .pointer (some ⟨xb, 1, none⟩)) rfl rfl (by kernel_rfl) (by kernel_rfl) (by kernel_rfl) (wanted_some (j := 6) (d := 223) (bb := false) rfl rfl rfl (by simp [eval_put_ne, eval_put_eq, size_put, hts]) (by simp [size_put, hts])) (fun _ _ _ h => h) hS (fun U hU => r_fld40 (i := 1) (by decide) (by simp [eval_put_ne, eval_put_eq, size_put, hts, e9])) ?_
              refine tkD 10 227 (v := .slice ro9 s3.ws.length rc9) rfl rfl (by kernel_rfl) (by kernel_rfl) (by kernel_rfl) (wanted_some (j := 6) (d := 223) (bb := false) rfl rfl rfl (by simp [eval_put_ne, eval_put_eq, size_put, hts]) (by simp [size_put, hts])) (fun _ _ _ h => h) hS (fun U hU => r_ld38 (b := xb) (i := 1) (by simp [eval_put_ne, eval_put_eq, size_put, hts]) ((hU.cell 1).trans (congrArg some HSl9.out))) ?_
              refine tkD 11 228 (v := .int .i64 (s3.ws.length : Int)) rfl rfl (by kernel_rfl) (by kernel_rfl) (by kernel_rfl) (wanted_some (j := 6) (d := 223) (bb := false) rfl rfl rfl (by simp [eval_put_ne, eval_put_eq, size_put, hts]) (by simp [size_put, hts])) (fun _ _ _ h => h) hS (fun U hU => r_len38 (ao := ro9) (c := rc9) (by simp [eval_put_ne, eval_put_eq, size_put, hts])) ?_
              refine clD 8 225 (v := .int .i64 (s3.ws.length : Int)) rfl rfl (by kernel_rfl) (wanted_some (j := 6) (d := 223) (bb := false) rfl rfl rfl (by simp [eval_put_ne, eval_put_eq, size_put, hts]) (by simp [size_put, hts])) (r_call1 Try.func15 (by kernel_rfl) rfl rfl (by simp [eval_put_ne, eval_put_eq, size_put, hts])) (hPb.ask fun G h => h.waiting) hS1 ?_
              refine dnD 12 229 (v := .bool false) rfl rfl (by kernel_rfl) (wanted_some (j := 6) (d := 223) (bb := false) rfl rfl rfl (by simp [eval_put_ne, eval_put_eq, size_put, hts]) (by simp [size_put, hts])) (r_neq3 (i := (s3.ws.length : Int)) (by simp [eval_put_ne, eval_put_eq, size_put, hts]) (by simp [eval_put_ne, eval_put_eq, size_put, hts])) hS1 ?_
              refine dnD 13 230 (v := .bool false) rfl rfl (by kernel_rfl) (wanted_none rfl) (r_pickF (by simp [eval_put_ne, eval_put_eq, size_put, hts]) (by simp [eval_put_ne, eval_put_eq, size_put, hts])) hS1 ?_
              refine dnD 14 231 (v := .bool false) rfl rfl (by kernel_rfl) (wanted_none rfl) (r_move (by simp [eval_put_ne, eval_put_eq, size_put, hts])) hS1 ?_
              refine tkD 15 232 (v := .pointer (some ⟨d, 0, none⟩)) rfl rfl (by kernel_rfl) (by kernel_rfl) (by kernel_rfl) (wanted_some (j := 14) (d := 231) (bb := false) rfl rfl rfl (by simp [eval_put_ne, eval_put_eq, size_put, hts]) (by simp [size_put, hts])) (fun _ _ _ h => h) hS (fun U hU => r_move (by simp [eval_put_ne, eval_put_eq, size_put, hts, e5])) ?_
              refine tkD 17 234 (v := .pointer (some ⟨xb, 2, none⟩)) rfl rfl (by kernel_rfl) (by kernel_rfl) (by kernel_rfl) (wanted_some (j := 14) (d := 231) (bb := false) rfl rfl rfl (by simp [eval_put_ne, eval_put_eq, size_put, hts]) (by simp [size_put, hts])) (fun _ _ _ h => h) hS (fun U hU => r_fld40 (i := 2) (by decide) (by simp [eval_put_ne, eval_put_eq, size_put, hts, e9])) ?_
              refine tkD 18 235 (v := .int .i64 (s3.calls : Int)) rfl rfl (by kernel_rfl) (by kernel_rfl) (by kernel_rfl) (wanted_some (j := 14) (d := 231) (bb := false) rfl rfl rfl (by simp [eval_put_ne, eval_put_eq, size_put, hts]) (by simp [size_put, hts])) (fun _ _ _ h => h) hS (fun U hU => r_ld3 (b := xb) (i := 2) (by simp [eval_put_ne, eval_put_eq, size_put, hts]) (hU.cell 2)) ?_
              refine clD 16 233 (v := .int .i64 (s3.calls : Int)) rfl rfl (by kernel_rfl) (wanted_some (j := 14) (d := 231) (bb := false) rfl rfl rfl (by simp [eval_put_ne, eval_put_eq, size_put, hts]) (by simp [size_put, hts])) (r_call1 Try.func16 (by kernel_rfl) rfl rfl (by simp [eval_put_ne, eval_put_eq, size_put, hts])) (hPb.ask fun G h => h.calls) hS1 ?_
              refine dnD 19 236 (v := .bool false) rfl rfl (by kernel_rfl) (wanted_some (j := 14) (d := 231) (bb := false) rfl rfl rfl (by simp [eval_put_ne, eval_put_eq, size_put, hts]) (by simp [size_put, hts])) (r_neq3 (i := (s3.calls : Int)) (by simp [eval_put_ne, eval_put_eq, size_put, hts]) (by simp [eval_put_ne, eval_put_eq, size_put, hts])) hS1 ?_
              refine dnD 20 237 (v := .bool false) rfl rfl (by kernel_rfl) (wanted_none rfl) (r_pickF (by simp [eval_put_ne, eval_put_eq, size_put, hts]) (by simp [eval_put_ne, eval_put_eq, size_put, hts])) hS1 ?_
              refine dnD 21 238 (v := .bool false) rfl rfl (by kernel_rfl) (wanted_none rfl) (r_move (by simp [eval_put_ne, eval_put_eq, size_put, hts])) hS1 ?_
              refine tkD 22 239 (v := .pointer (some ⟨d, 0, none⟩)) rfl rfl (by kernel_rfl) (by kernel_rfl) (by kernel_rfl) (wanted_some (j := 21) (d := 238) (bb := false) rfl rfl rfl (by simp [eval_put_ne, eval_put_eq, size_put, hts]) (by simp [size_put, hts])) (fun _ _ _ h => h) hS (fun U hU => r_move (by simp [eval_put_ne, eval_put_eq, size_put, hts, e5])) ?_
              refine tkD 24 241 (v := .pointer (some ⟨xb, 4, none⟩)) rfl rfl (by kernel_rfl) (by kernel_rfl) (by kernel_rfl) (wanted_some (j := 21) (d := 238) (bb := false) rfl rfl rfl (by simp [eval_put_ne, eval_put_eq, size_put, hts]) (by simp [size_put, hts])) (fun _ _ _ h => h) hS (fun U hU => r_fld40 (i := 4) (by decide) (by simp [eval_put_ne, eval_put_eq, size_put, hts, e9])) ?_
              refine tkD 25 242 (v := .bool s3.off) rfl rfl (by kernel_rfl) (by kernel_rfl) (by kernel_rfl) (wanted_some (j := 21) (d := 238) (bb := false) rfl rfl rfl (by simp [eval_put_ne, eval_put_eq, size_put, hts]) (by simp [size_put, hts])) (fun _ _ _ h => h) hS (fun U hU => r_ld4 (b := xb) (i := 4) (by simp [eval_put_ne, eval_put_eq, size_put, hts]) (hU.cell 4)) ?_
              refine clD 23 240 (v := .bool s3.off) rfl rfl (by kernel_rfl) (wanted_some (j := 21) (d := 238) (bb := false) rfl rfl rfl (by simp [eval_put_ne, eval_put_eq, size_put, hts]) (by simp [size_put, hts])) (r_call1 Try.func18 (by kernel_rfl) rfl rfl (by simp [eval_put_ne, eval_put_eq, size_put, hts])) (hPb.ask fun G h => h.isOff) hS1 ?_
              refine dnD 26 243 (v := .bool false) rfl rfl (by kernel_rfl) (wanted_some (j := 21) (d := 238) (bb := false) rfl rfl rfl (by simp [eval_put_ne, eval_put_eq, size_put, hts]) (by simp [size_put, hts])) (r_neq4 (i := s3.off) (by simp [eval_put_ne, eval_put_eq, size_put, hts]) (by simp [eval_put_ne, eval_put_eq, size_put, hts])) hS1 ?_
              refine dnD 27 244 (v := .bool false) rfl rfl (by kernel_rfl) (wanted_none rfl) (r_pickF (by simp [eval_put_ne, eval_put_eq, size_put, hts]) (by simp [eval_put_ne, eval_put_eq, size_put, hts])) hS1 ?_
              refine wpAnyH_done (by kernel_rfl) ?_ _
              clear e5 e9 hts hS hS1 hheap hka hPa hgc
              rw [hfr.out]
              clear hfr
              simp only [put_lit, List.set_cons_succ, List.set_cons_zero]
              have HPb := hide hPb.bare
              clear hPb
              go_wp2
              go_roundw
              case rel => exact ⟨k + 1, s3, rv, by omega, by omega, by go_num, HPb.out, by omega, by omega⟩
              case measure => simp [intOf]; omega
            · have hmm2 : -1 ≤ m := by omega
              clear hmm
              have c0 : w7.cell? ⟨wr.heap.size, 0, none⟩ = some (.int .i64 kd) := (HP7.out.ex (x := (wr.heap.size, [Value.int .i64 kd, .int .i64 a, .int .i64 m, .slice bo B.length bc, .slice kao ks.length kcap], 44)) (by simp)).cell 0; have c1 : w7.cell? ⟨wr.heap.size, 1, none⟩ = some (.int .i64 a) := (HP7.out.ex (x := (wr.heap.size, [Value.int .i64 kd, .int .i64 a, .int .i64 m, .slice bo B.length bc, .slice kao ks.length kcap], 44)) (by simp)).cell 1; have c2 : w7.cell? ⟨wr.heap.size, 2, none⟩ = some (.int .i64 m) := (HP7.out.ex (x := (wr.heap.size, [Value.int .i64 kd, .int .i64 a, .int .i64 m, .slice bo B.length bc, .slice kao ks.length kcap], 44)) (by simp)).cell 2; have c3 : w7.cell? ⟨wr.heap.size, 3, none⟩ = some (.slice bo B.length bc) := (HP7.out.ex (x := (wr.heap.size, [Value.int .i64 kd, .int .i64 a, .int .i64 m, .slice bo B.length bc, .slice kao ks.length kcap], 44)) (by simp)).cell 3; have c4 : w7.cell? ⟨wr.heap.size, 4, none⟩ = some (.slice kao ks.length kcap) := (HP7.out.ex (x := (wr.heap.size, [Value.int .i64 kd, .int .i64 a, .int .i64 m, .slice bo B.length bc, .slice kao ks.length kcap], 44)) (by simp)).cell 4
              have b73 : w7.cell? ⟨xb, 3, none⟩ = some (.int .i64 s.left) := HP7.out.blk.cell 3
              have f73 := HP7.out.blk.frozen 3
              have hmL : max m (-1) = m := by omega
              have hP8 : Pl w (w7.setCell ⟨xb, 3, none⟩ (.int .i64 m)) d xb n s { s with left := max m (-1) } rv [(wr.heap.size, [Value.int .i64 kd, .int .i64 a, .int .i64 m, .slice bo B.length bc, .slice kao ks.length kcap], 44)] := by
                have h := HP7.out.left (max m (-1))
                have hw : w7.setCell ⟨xb, 3, none⟩ (.int .i64 (max m (-1))) = (w7.setCell ⟨xb, 3, none⟩ (.int .i64 m)) := by rw [hmL]
                rw [hw] at h
                exact h
              clear hmL
              have cx0 : (w7.setCell ⟨xb, 3, none⟩ (.int .i64 m)).cell? ⟨wr.heap.size, 0, none⟩ = some (.int .i64 kd) := (hP8.ex (x := (wr.heap.size, [Value.int .i64 kd, .int .i64 a, .int .i64 m, .slice bo B.length bc, .slice kao ks.length kcap], 44)) (by simp)).cell 0; have cx1 : (w7.setCell ⟨xb, 3, none⟩ (.int .i64 m)).cell? ⟨wr.heap.size, 1, none⟩ = some (.int .i64 a) := (hP8.ex (x := (wr.heap.size, [Value.int .i64 kd, .int .i64 a, .int .i64 m, .slice bo B.length bc, .slice kao ks.length kcap], 44)) (by simp)).cell 1; have cx2 : (w7.setCell ⟨xb, 3, none⟩ (.int .i64 m)).cell? ⟨wr.heap.size, 2, none⟩ = some (.int .i64 m) := (hP8.ex (x := (wr.heap.size, [Value.int .i64 kd, .int .i64 a, .int .i64 m, .slice bo B.length bc, .slice kao ks.length kcap], 44)) (by simp)).cell 2; have cx3 : (w7.setCell ⟨xb, 3, none⟩ (.int .i64 m)).cell? ⟨wr.heap.size, 3, none⟩ = some (.slice bo B.length bc) := (hP8.ex (x := (wr.heap.size, [Value.int .i64 kd, .int .i64 a, .int .i64 m, .slice bo B.length bc, .slice kao ks.length kcap], 44)) (by simp)).cell 3; have cx4 : (w7.setCell ⟨xb, 3, none⟩ (.int .i64 m)).cell? ⟨wr.heap.size, 4, none⟩ = some (.slice kao ks.length kcap) := (hP8.ex (x := (wr.heap.size, [Value.int .i64 kd, .int .i64 a, .int .i64 m, .slice bo B.length bc, .slice kao ks.length kcap], 44)) (by simp)).cell 4
              go_wp2_with (first
                | (go_at_call 9; refine (hP8.dev (fun G h => h.limit m hm)).mono ?_; rintro e w10 ⟨rfl, hP10⟩; clear c0 c1 c2 c3 c4; clear cx0 cx1 cx2 cx3 cx4; have c0 : w10.cell? ⟨wr.heap.size, 0, none⟩ = some (.int .i64 kd) := (hP10.ex (x := (wr.heap.size, [Value.int .i64 kd, .int .i64 a, .int .i64 m, .slice bo B.length bc, .slice kao ks.length kcap], 44)) (by simp)).cell 0; have c1 : w10.cell? ⟨wr.heap.size, 1, none⟩ = some (.int .i64 a) := (hP10.ex (x := (wr.heap.size, [Value.int .i64 kd, .int .i64 a, .int .i64 m, .slice bo B.length bc, .slice kao ks.length kcap], 44)) (by simp)).cell 1; have c2 : w10.cell? ⟨wr.heap.size, 2, none⟩ = some (.int .i64 m) := (hP10.ex (x := (wr.heap.size, [Value.int .i64 kd, .int .i64 a, .int .i64 m, .slice bo B.length bc, .slice kao ks.length kcap], 44)) (by simp)).cell 2; have c3 : w10.cell? ⟨wr.heap.size, 3, none⟩ = some (.slice bo B.length bc) := (hP10.ex (x := (wr.heap.size, [Value.int .i64 kd, .int .i64 a, .int .i64 m, .slice bo B.length bc, .slice kao ks.length kcap], 44)) (by simp)).cell 3; have c4 : w10.cell? ⟨wr.heap.size, 4, none⟩ = some (.slice kao ks.length kcap) := (hP10.ex (x := (wr.heap.size, [Value.int .i64 kd, .int .i64 a, .int .i64 m, .slice bo B.length bc, .slice kao ks.length kcap], 44)) (by simp)).cell 4)
                | (with_reducible refine stop_bin .rem ?_))
              obtain ⟨s3, hs3⟩ : ∃ s3 : DS, s3 = { s with left := max m (-1) } := ⟨_, rfl⟩
              rw [← hs3] at hP10
              have hs3c : s3.calls ≤ k := by rw [hs3]; exact hcl
              have hs3w : s3.ws.length ≤ 32 * k := by rw [hs3]; exact hwl
              have HP10 := hide hP10
              clear hP8 hP10 b73 f73 hs3
              refine hide ?_
              refine wpList_run rfl (r_rem6 (v := IntKind.u64.wrap kd) (q := 3) rfl rfl hv0 HQ.out) ?_
              obtain ⟨ro9, rc9, hsl9⟩ := HP10.out.slice
              have HSl9 := hide hsl9
              clear hsl9
              go_wp2_with fail
              refine hold_frame (p := fun fr => Code.wp Try.prog _ _ fr _) ?_
              intro fr hfr
              have e5 : fr.eval (.tmp 5) = .pointer (some ⟨d, 0, none⟩) := by rw [hfr.out]; rfl
              have e9 : fr.eval (.tmp 9) = .pointer (some ⟨xb, 0, none⟩) := by rw [hfr.out]; rfl
              have hts : fr.tmps.size = 250 := by rw [hfr.out]; rfl
              refine region_held (S := fun U => Blk U xb (refL s3 rv) 40) Try.mixed ?_
              intro wa hka hheap
              have hPa := HP10.out.same hka
              have hS := hPa.blk
              refine tkD 0 217 (v := .pointer (some ⟨d, 0, none⟩)) rfl rfl (by kernel_rfl) (by kernel_rfl) (by kernel_rfl) (wanted_none rfl) (fun _ _ _ h => h) hS (fun U hU => r_move (by simp [eval_put_ne, eval_put_eq, size_put, hts, e5])) ?_
              refine tkD 3 220 (v := .pointer (some ⟨xb, 0, none⟩)) rfl rfl (by kernel_rfl) (by kernel_rfl) (by kernel_rfl) (wanted_none rfl) (fun _ _ _ h => h) hS (fun U hU => r_fld40 (i := 0) (by decide) (by simp [eval_put_ne, eval_put_eq, size_put, hts, e9])) ?_
              refine tkD 4 221 (v := .string (strV s3.st)) rfl rfl (by kernel_rfl) (by kernel_rfl) (by kernel_rfl) (wanted_none rfl) (fun _ _ _ h => h) hS (fun U hU => r_ld9 (b := xb) (i := 0) (by simp [eval_put_ne, eval_put_eq, size_put, hts]) (hU.cell 0)) ?_
              refine clWD 1 218 rfl rfl (by kernel_rfl) (wanted_none rfl) (r_call1 Try.func17 (by kernel_rfl) rfl rfl (by simp [eval_put_ne, eval_put_eq, size_put, hts])) (hPa.img) ?_
              rintro e wb ⟨g, rfl, hgc, hPb⟩
              have hS1 := hPb.blk
              refine ⟨_, rfl, hS1, ?_⟩
              clear hS
              have hS := hS1
              refine dnD 2 219 (v := .string (strV s3.st)) rfl rfl (by kernel_rfl) (wanted_none rfl) (r_str (b := g) (so := 0) (len := n * 64) (cap := n * 64) (by simp [eval_put_ne, eval_put_eq, size_put, hts]) hgc (by rw [hPb.facts.2.2.1, Nat.mul_comm]) hPb.facts.2.2.2.1) hS1 ?_
              refine dnD 5 222 (v := .bool false) rfl rfl (by kernel_rfl) (wanted_none rfl) (r_neq9 (s := strV s3.st) (by simp [eval_put_ne, eval_put_eq, size_put, hts]) (by simp [eval_put_ne, eval_put_eq, size_put, hts])) hS1 ?_
              refine dnD 6 223 (v := .bool false) rfl rfl (by kernel_rfl) (wanted_none rfl) (r_move (by simp [eval_put_ne, eval_put_eq, size_put, hts])) hS1 ?_
              refine tkD 7 224 (v := .pointer (some ⟨d, 0, none⟩)) rfl rfl (by kernel_rfl) (by kernel_rfl) (by kernel_rfl) (wanted_some (j := 6) (d := 223) (bb := false) rfl rfl rfl (by simp [eval_put_ne, eval_put_eq, size_put, hts]) (by simp [size_put, hts])) (fun _ _ _ h => h) hS (fun U hU => r_move (by simp [eval_put_ne, eval_put_eq, size_put, hts, e5])) ?_
              refine tkD 9 226 (v := .pointer (some ⟨xb, 1, none⟩)) rfl rfl (by kernel_rfl) (by kernel_rfl) (by kernel_rfl) (wanted_some (j := 6) (d := 223) (bb := false) rfl rfl rfl (by simp [eval_put_ne, eval_put_eq, size_put, hts]) (by simp [size_put, hts])) (fun _ _ _ h => h) hS (fun U hU => r_fld40 (i := 1) (by decide) (by simp [eval_put_ne, eval_put_eq, size_put, hts, e9])) ?_
              refine tkD 10 227 (v := .slice ro9 s3.ws.length rc9) rfl rfl (by kernel_rfl) (by kernel_rfl) (by kernel_rfl) (wanted_some (j := 6) (d := 223) (bb := false) rfl rfl rfl (by simp [eval_put_ne, eval_put_eq, size_put, hts]) (by simp [size_put, hts])) (fun _ _ _ h => h) hS (fun U hU => r_ld38 (b := xb) (i := 1) (by simp [eval_put_ne, eval_put_eq, size_put, hts]) ((hU.cell 1).trans (congrArg some HSl9.out))) ?_
              refine tkD 11 228 (v := .int .i64 (s3.ws.length : Int)) rfl rfl (by kernel_rfl) (by kernel_rfl) (by kernel_rfl) (wanted_some (j := 6) (d := 223) (bb := false) rfl rfl rfl (by simp [eval_put_ne, eval_put_eq, size_put, hts]) (by simp [size_put, hts])) (fun _ _ _ h => h) hS (fun U hU => r_len38 (ao := ro9) (c := rc9) (by simp [eval_put_ne, eval_put_eq, size_put, hts])) ?_
              refine clD 8 225 (v := .int .i64 (s3.ws.length : Int)) rfl rfl (by kernel_rfl) (wanted_some (j := 6) (d := 223) (bb := false) rfl rfl rfl (by simp [eval_put_ne, eval_put_eq, size_put, hts]) (by simp [size_put, hts])) (r_call1 Try.func15 (by kernel_rfl) rfl rfl (by simp [eval_put_ne, eval_put_eq, size_put, hts])) (hPb.ask fun G h => h.waiting) hS1 ?_
              refine dnD 12 229 (v := .bool false) rfl rfl (by kernel_rfl) (wanted_some (j := 6) (d := 223) (bb := false) rfl rfl rfl (by simp [eval_put_ne, eval_put_eq, size_put, hts]) (by simp [size_put, hts])) (r_neq3 (i := (s3.ws.length : Int)) (by simp [eval_put_ne, eval_put_eq, size_put, hts]) (by simp [eval_put_ne, eval_put_eq, size_put, hts])) hS1 ?_
              refine dnD 13 230 (v := .bool false) rfl rfl (by kernel_rfl) (wanted_none rfl) (r_pickF (by simp [eval_put_ne, eval_put_eq, size_put, hts]) (by simp [eval_put_ne, eval_put_eq, size_put, hts])) hS1 ?_
              refine dnD 14 231 (v := .bool false) rfl rfl (by kernel_rfl) (wanted_none rfl) (r_move (by simp [eval_put_ne, eval_put_eq, size_put, hts])) hS1 ?_
              refine tkD 15 232 (v := .pointer (some ⟨d, 0, none⟩)) rfl rfl (by kernel_rfl) (by kernel_rfl) (by kernel_rfl) (wanted_some (j := 14) (d := 231) (bb := false) rfl rfl rfl (by simp [eval_put_ne, eval_put_eq, size_put, hts]) (by simp [size_put, hts])) (fun _ _ _ h => h) hS (fun U hU => r_move (by simp [eval_put_ne, eval_put_eq, size_put, hts, e5])) ?_
              refine tkD 17 234 (v := .pointer (some ⟨xb, 2, none⟩)) rfl rfl (by kernel_rfl) (by kernel_rfl) (by kernel_rfl) (wanted_some (j := 14) (d := 231) (bb := false) rfl rfl rfl (by simp [eval_put_ne, eval_put_eq, size_put, hts]) (by simp [size_put, hts])) (fun _ _ _ h => h) hS (fun U hU => r_fld40 (i := 2) (by decide) (by simp [eval_put_ne, eval_put_eq, size_put, hts, e9])) ?_
              refine tkD 18 235 (v := .int .i64 (s3.calls : Int)) rfl rfl (by kernel_rfl) (by kernel_rfl) (by kernel_rfl) (wanted_some (j := 14) (d := 231) (bb := false) rfl rfl rfl (by simp [eval_put_ne, eval_put_eq, size_put, hts]) (by simp [size_put, hts])) (fun _ _ _ h => h) hS (fun U hU => r_ld3 (b := xb) (i := 2) (by simp [eval_put_ne, eval_put_eq, size_put, hts]) (hU.cell 2)) ?_
              refine clD 16 233 (v := .int .i64 (s3.calls : Int)) rfl rfl (by kernel_rfl) (wanted_some (j := 14) (d := 231) (bb := false) rfl rfl rfl (by simp [eval_put_ne, eval_put_eq, size_put, hts]) (by simp [size_put, hts])) (r_call1 Try.func16 (by kernel_rfl) rfl rfl (by simp [eval_put_ne, eval_put_eq, size_put, hts])) (hPb.ask fun G h => h.calls) hS1 ?_
              refine dnD 19 236 (v := .bool false) rfl rfl (by kernel_rfl) (wanted_some (j := 14) (d := 231) (bb := false) rfl rfl rfl (by simp [eval_put_ne, eval_put_eq, size_put, hts]) (by simp [size_put, hts])) (r_neq3 (i := (s3.calls : Int)) (by simp [eval_put_ne, eval_put_eq, size_put, hts]) (by simp [eval_put_ne, eval_put_eq, size_put, hts])) hS1 ?_
              refine dnD 20 237 (v := .bool false) rfl rfl (by kernel_rfl) (wanted_none rfl) (r_pickF (by simp [eval_put_ne, eval_put_eq, size_put, hts]) (by simp [eval_put_ne, eval_put_eq, size_put, hts])) hS1 ?_
              refine dnD 21 238 (v := .bool false) rfl rfl (by kernel_rfl) (wanted_none rfl) (r_move (by simp [eval_put_ne, eval_put_eq, size_put, hts])) hS1 ?_
              refine tkD 22 239 (v := .pointer (some ⟨d, 0, none⟩)) rfl rfl (by kernel_rfl) (by kernel_rfl) (by kernel_rfl) (wanted_some (j := 21) (d := 238) (bb := false) rfl rfl rfl (by simp [eval_put_ne, eval_put_eq, size_put, hts]) (by simp [size_put, hts])) (fun _ _ _ h => h) hS (fun U hU => r_move (by simp [eval_put_ne, eval_put_eq, size_put, hts, e5])) ?_
              refine tkD 24 241 (v := .pointer (some ⟨xb, 4, none⟩)) rfl rfl (by kernel_rfl) (by kernel_rfl) (by kernel_rfl) (wanted_some (j := 21) (d := 238) (bb := false) rfl rfl rfl (by simp [eval_put_ne, eval_put_eq, size_put, hts]) (by simp [size_put, hts])) (fun _ _ _ h => h) hS (fun U hU => r_fld40 (i := 4) (by decide) (by simp [eval_put_ne, eval_put_eq, size_put, hts, e9])) ?_
              refine tkD 25 242 (v := .bool s3.off) rfl rfl (by kernel_rfl) (by kernel_rfl) (by kernel_rfl) (wanted_some (j := 21) (d := 238) (bb := false) rfl rfl rfl (by simp [eval_put_ne, eval_put_eq, size_put, hts]) (by simp [size_put, hts])) (fun _ _ _ h => h) hS (fun U hU => r_ld4 (b := xb) (i := 4) (by simp [eval_put_ne, eval_put_eq, size_put, hts]) (hU.cell 4)) ?_
              refine clD 23 240 (v := .bool s3.off) rfl rfl (by kernel_rfl) (wanted_some (j := 21) (d := 238) (bb := false) rfl rfl rfl (by simp [eval_put_ne, eval_put_eq, size_put, hts]) (by simp [size_put, hts])) (r_call1 Try.func18 (by kernel_rfl) rfl rfl (by simp [eval_put_ne, eval_put_eq, size_put, hts])) (hPb.ask fun G h => h.isOff) hS1 ?_
              refine dnD 26 243 (v := .bool false) rfl rfl (by kernel_rfl) (wanted_some (j := 21) (d := 238) (bb := false) rfl rfl rfl (by simp [eval_put_ne, eval_put_eq, size_put, hts]) (by simp [size_put, hts])) (r_neq4 (i := s3.off) (by simp [eval_put_ne, eval_put_eq, size_put, hts]) (by simp [eval_put_ne, eval_put_eq, size_put, hts])) hS1 ?_
              refine dnD 27 244 (v := .bool false) rfl rfl (by kernel_rfl) (wanted_none rfl) (r_pickF (by simp [eval_put_ne, eval_put_eq, size_put, hts]) (by simp [eval_put_ne, eval_put_eq, size_put, hts])) hS1 ?_
              refine wpAnyH_done (by kernel_rfl) ?_ _
              clear e5 e9 hts hS hS1 hheap hka hPa hgc
              rw [hfr.out]
              clear hfr
              simp only [put_lit, List.set_cons_succ, List.set_cons_zero]
              have HPb := hide hPb.bare
              clear hPb
              go_wp2
              go_roundw
              case rel => exact ⟨k + 1, s3, rv, by omega, by omega, by go_num, HPb.out, by omega, by omega⟩
              case measure => simp [intOf]; omega
          case k4 =>
            rintro rfl
            have c0 : w7.cell? ⟨wr.heap.size, 0, none⟩ = some (.int .i64 kd) := (HP7.out.ex (x := (wr.heap.size, [Value.int .i64 kd, .int .i64 a, .int .i64 m, .slice bo B.length bc, .slice kao ks.length kcap], 44)) (by simp)).cell 0; have c1 : w7.cell? ⟨wr.heap.size, 1, none⟩ = some (.int .i64 a) := (HP7.out.ex (x := (wr.heap.size, [Value.int .i64 kd, .int .i64 a, .int .i64 m, .slice bo B.length bc, .slice kao ks.length kcap], 44)) (by simp)).cell 1; have c2 : w7.cell? ⟨wr.heap.size, 2, none⟩ = some (.int .i64 m) := (HP7.out.ex (x := (wr.heap.size, [Value.int .i64 kd, .int .i64 a, .int .i64 m, .slice bo B.length bc, .slice kao ks.length kcap], 44)) (by simp)).cell 2; have c3 : w7.cell? ⟨wr.heap.size, 3, none⟩ = some (.slice bo B.length bc) := (HP7.out.ex (x := (wr.heap.size, [Value.int .i64 kd, .int .i64 a, .int .i64 m, .slice bo B.length bc, .slice kao ks.length kcap], 44)) (by simp)).cell 3; have c4 : w7.cell? ⟨wr.heap.size, 4, none⟩ = some (.slice kao ks.length kcap) := (HP7.out.ex (x := (wr.heap.size, [Value.int .i64 kd, .int .i64 a, .int .i64 m, .slice bo B.length bc, .slice kao ks.length kcap], 44)) (by simp)).cell 4
            have b7 := HP7.out.blk
            have HK7 := hide (HKp.out.kept HP7.out.kept (fun _ _ h => h.elim)).weak
            have HR1 := hide (refL_one (s.crashed ks) none 0 0)
            go_wp2_with (first
              | ((with_reducible refine aw_load (dst := some 190) Try.agg40 rfl b7 HL5.out HLd.out ?_))
              | (go_at_call 23; refine (refCrash_any w7 s n HP7.out.facts.2.2.1 HP7.out.facts.2.1 rv HP7.out.own HP7.out.facts.2.2.2.2.1 HP7.out.facts.2.2.2.1 _ ks HK7.out).mono ?_; rintro e w8 ⟨rfl, hk8⟩; rw [refL_A]; have hP8 := HP7.out.same hk8; have b8 := hP8.blk; clear c0 c1 c2 c3 c4; have c0 : w8.cell? ⟨wr.heap.size, 0, none⟩ = some (.int .i64 kd) := (hP8.ex (x := (wr.heap.size, [Value.int .i64 kd, .int .i64 a, .int .i64 m, .slice bo B.length bc, .slice kao ks.length kcap], 44)) (by simp)).cell 0; have c1 : w8.cell? ⟨wr.heap.size, 1, none⟩ = some (.int .i64 a) := (hP8.ex (x := (wr.heap.size, [Value.int .i64 kd, .int .i64 a, .int .i64 m, .slice bo B.length bc, .slice kao ks.length kcap], 44)) (by simp)).cell 1; have c2 : w8.cell? ⟨wr.heap.size, 2, none⟩ = some (.int .i64 m) := (hP8.ex (x := (wr.heap.size, [Value.int .i64 kd, .int .i64 a, .int .i64 m, .slice bo B.length bc, .slice kao ks.length kcap], 44)) (by simp)).cell 2; have c3 : w8.cell? ⟨wr.heap.size, 3, none⟩ = some (.slice bo B.length bc) := (hP8.ex (x := (wr.heap.size, [Value.int .i64 kd, .int .i64 a, .int .i64 m, .slice bo B.length bc, .slice kao ks.length kcap], 44)) (by simp)).cell 3; have c4 : w8.cell? ⟨wr.heap.size, 4, none⟩ = some (.slice kao ks.length kcap) := (hP8.ex (x := (wr.heap.size, [Value.int .i64 kd, .int .i64 a, .int .i64 m, .slice bo B.length bc, .slice kao ks.length kcap], 44)) (by simp)).cell 4)
              | ((with_reducible refine aw_store (x := .tmp 9) (M := refL (s.crashed ks) (.slice none 0 0)) Try.agg40 rfl rfl (refL_len _ _) HR1.out b8 HL5.out ?_); intro w9 hw9 hk9 hz9; rw [put_whole _ _ (by rw [refL_len, refL_len])] at hw9; have Hz9 := hide hz9; clear hz9; have hP9 := HP7.out.ref (s2 := s.crashed ks) (rv' := .slice none 0 0) hk8 (.inr (World.ownsRow_nil _ _ _ _)) hk9 hw9; clear c0 c1 c2 c3 c4; have c0 : w9.cell? ⟨wr.heap.size, 0, none⟩ = some (.int .i64 kd) := (hP9.ex (x := (wr.heap.size, [Value.int .i64 kd, .int .i64 a, .int .i64 m, .slice bo B.length bc, .slice kao ks.length kcap], 44)) (by simp)).cell 0; have c1 : w9.cell? ⟨wr.heap.size, 1, none⟩ = some (.int .i64 a) := (hP9.ex (x := (wr.heap.size, [Value.int .i64 kd, .int .i64 a, .int .i64 m, .slice bo B.length bc, .slice kao ks.length kcap], 44)) (by simp)).cell 1; have c2 : w9.cell? ⟨wr.heap.size, 2, none⟩ = some (.int .i64 m) := (hP9.ex (x := (wr.heap.size, [Value.int .i64 kd, .int .i64 a, .int .i64 m, .slice bo B.length bc, .slice kao ks.length kcap], 44)) (by simp)).cell 2; have c3 : w9.cell? ⟨wr.heap.size, 3, none⟩ = some (.slice bo B.length bc) := (hP9.ex (x := (wr.heap.size, [Value.int .i64 kd, .int .i64 a, .int .i64 m, .slice bo B.length bc, .slice kao ks.length kcap], 44)) (by simp)).cell 3; have c4 : w9.cell? ⟨wr.heap.size, 4, none⟩ = some (.slice kao ks.length kcap) := (hP9.ex (x := (wr.heap.size, [Value.int .i64 kd, .int .i64 a, .int .i64 m, .slice bo B.length bc, .slice kao ks.length kcap], 44)) (by simp)).cell 4)
              | (go_at_call 10; refine (hP9.dev (fun G h => h.crashR _ ks HKp.out)).mono ?_; rintro e w10 ⟨rfl, hP10⟩; clear c0 c1 c2 c3 c4; have c0 : w10.cell? ⟨wr.heap.size, 0, none⟩ = some (.int .i64 kd) := (hP10.ex (x := (wr.heap.size, [Value.int .i64 kd, .int .i64 a, .int .i64 m, .slice bo B.length bc, .slice kao ks.length kcap], 44)) (by simp)).cell 0; have c1 : w10.cell? ⟨wr.heap.size, 1, none⟩ = some (.int .i64 a) := (hP10.ex (x := (wr.heap.size, [Value.int .i64 kd, .int .i64 a, .int .i64 m, .slice bo B.length bc, .slice kao ks.length kcap], 44)) (by simp)).cell 1; have c2 : w10.cell? ⟨wr.heap.size, 2, none⟩ = some (.int .i64 m) := (hP10.ex (x := (wr.heap.size, [Value.int .i64 kd, .int .i64 a, .int .i64 m, .slice bo B.length bc, .slice kao ks.length kcap], 44)) (by simp)).cell 2; have c3 : w10.cell? ⟨wr.heap.size, 3, none⟩ = some (.slice bo B.length bc) := (hP10.ex (x := (wr.heap.size, [Value.int .i64 kd, .int .i64 a, .int .i64 m, .slice bo B.length bc, .slice kao ks.length kcap], 44)) (by simp)).cell 3; have c4 : w10.cell? ⟨wr.heap.size, 4, none⟩ = some (.slice kao ks.length kcap) := (hP10.ex (x := (wr.heap.size, [Value.int .i64 kd, .int .i64 a, .int .i64 m, .slice bo B.length bc, .slice kao ks.length kcap], 44)) (by simp)).cell 4)
              | (with_reducible refine stop_bin .rem ?_))
            have HP10 := hide hP10
            clear hP8 hP9 hP10 b7 b8 hk8 hk9 hw9
            refine hide ?_
            refine wpList_run rfl (r_rem6 (v := IntKind.u64.wrap kd) (q := 4) rfl rfl hv0 HQ.out) ?_
            obtain ⟨ro9, rc9, hsl9⟩ := HP10.out.slice
            have HSl9 := hide hsl9
            clear hsl9
            go_wp2_with fail
            refine hold_frame (p := fun fr => Code.wp Try.prog _ _ fr _) ?_
            intro fr hfr
            have e5 : fr.eval (.tmp 5) = .pointer (some ⟨d, 0, none⟩) := by rw [hfr.out]; rfl
            have e9 : fr.eval (.tmp 9) = .pointer (some ⟨xb, 0, none⟩) := by rw [hfr.out]; rfl
            have hts : fr.tmps.size = 250 := by rw [hfr.out]; rfl
            refine region_held (S := fun U => Blk U xb (refL (s.crashed ks) (.slice none 0 0)) 40) Try.mixed ?_
            intro wa hka hheap
            have hPa := HP10.out.same hka
            have hS := hPa.blk
            refine tkD 0 217 (v := .pointer (some ⟨d, 0, none⟩)) rfl rfl (by kernel_rfl) (by kernel_rfl) (by kernel_rfl) (wanted_none rfl) (fun _ _ _ h => h) hS (fun U hU => r_move (by simp [eval_put_ne, eval_put_eq, size_put, hts, e5])) ?_
            refine tkD 3 220 (v := .pointer (some ⟨xb, 0, none⟩)) rfl rfl (by kernel_rfl) (by kernel_rfl) (by kernel_rfl) (wanted_none rfl) (fun _ _ _ h => h) hS (fun U hU => r_fld40 (i := 0) (by decide) (by simp [eval_put_ne, eval_put_eq, size_put, hts, e9])) ?_
            refine tkD 4 221 (v := .string (strV (s.crashed ks).st)) rfl rfl (by kernel_rfl) (by kernel_rfl) (by kernel_rfl) (wanted_none rfl) (fun _ _ _ h => h) hS (fun U hU => r_ld9 (b := xb) (i := 0) (by simp [eval_put_ne, eval_put_eq, size_put, hts]) (hU.cell 0)) ?_
            refine clWD 1 218 rfl rfl (by kernel_rfl) (wanted_none rfl) (r_call1 Try.func17 (by kernel_rfl) rfl rfl (by simp [eval_put_ne, eval_put_eq, size_put, hts])) (hPa.img) ?_
            rintro e wb ⟨g, rfl, hgc, hPb⟩
            have hS1 := hPb.blk
            refine ⟨_, rfl, hS1, ?_⟩
            clear hS
            have hS := hS1
            refine dnD 2 219 (v := .string (strV (s.crashed ks).st)) rfl rfl (by kernel_rfl) (wanted_none rfl) (r_str (b := g) (so := 0) (len := n * 64) (cap := n * 64) (by simp [eval_put_ne, eval_put_eq, size_put, hts]) hgc (by rw [hPb.facts.2.2.1, Nat.mul_comm]) hPb.facts.2.2.2.1) hS1 ?_
            refine dnD 5 222 (v := .bool false) rfl rfl (by kernel_rfl) (wanted_none rfl) (r_neq9 (s := strV (s.crashed ks).st) (by simp [eval_put_ne, eval_put_eq, size_put, hts]) (by simp [eval_put_ne, eval_put_eq, size_put, hts])) hS1 ?_
            refine dnD 6 223 (v := .bool false) rfl rfl (by kernel_rfl) (wanted_none rfl) (r_move (by simp [eval_put_ne, eval_put_eq, size_put, hts])) hS1 ?_
            refine tkD 7 224 (v := .pointer (some ⟨d, 0, none⟩)) rfl rfl (by kernel_rfl) (by kernel_rfl) (by kernel_rfl) (wanted_some (j := 6) (d := 223) (bb := false) rfl rfl rfl (by simp [eval_put_ne, eval_put_eq, size_put, hts]) (by simp [size_put, hts])) (fun _ _ _ h => h) hS (fun U hU => r_move (by simp [eval_put_ne, eval_put_eq, size_put, hts, e5])) ?_
            refine tkD 9 226 (v := .pointer (some ⟨xb, 1, none⟩)) rfl rfl (by kernel_rfl) (by kernel_rfl) (by kernel_rfl) (wanted_some (j := 6) (d := 223) (bb := false) rfl rfl rfl (by simp [eval_put_ne, eval_put_eq, size_put, hts]) (by simp [size_put, hts])) (fun _ _ _ h => h) hS (fun U hU => r_fld40 (i := 1) (by decide) (by simp [eval_put_ne, eval_put_eq, size_put, hts, e9])) ?_
            refine tkD 10 227 (v := .slice ro9 (s.crashed ks).ws.length rc9) rfl rfl (by kernel_rfl) (by kernel_rfl) (by kernel_rfl) (wanted_some (j := 6) (d := 223) (bb := false) rfl rfl rfl (by simp [eval_put_ne, eval_put_eq, size_put, hts]) (by simp [size_put, hts])) (fun _ _ _ h => h) hS (fun U hU => r_ld38 (b := xb) (i := 1) (by simp [eval_put_ne, eval_put_eq, size_put, hts]) ((hU.cell 1).trans (congrArg some HSl9.out))) ?_
            refine tkD 11 228 (v := .int .i64 ((s.crashed ks).ws.length : Int)) rfl rfl (by kernel_rfl) (by kernel_rfl) (by kernel_rfl) (wanted_some (j := 6) (d := 223) (bb := false) rfl rfl rfl (by simp [eval_put_ne, eval_put_eq, size_put, hts]) (by simp [size_put, hts])) (fun _ _ _ h => h) hS (fun U hU => r_len38 (ao := ro9) (c := rc9) (by simp [eval_put_ne, eval_put_eq, size_put, hts])) ?_
            refine clD 8 225 (v := .int .i64 ((s.crashed ks).ws.length : Int)) rfl rfl (by kernel_rfl) (wanted_some (j := 6) (d := 223) (bb := false) rfl rfl rfl (by simp [eval_put_ne, eval_put_eq, size_put, hts]) (by simp [size_put, hts])) (r_call1 Try.func15 (by kernel_rfl) rfl rfl (by simp [eval_put_ne, eval_put_eq, size_put, hts])) (hPb.ask fun G h => h.waiting) hS1 ?_
            refine dnD 12 229 (v := .bool false) rfl rfl (by kernel_rfl) (wanted_some (j := 6) (d := 223) (bb := false) rfl rfl rfl (by simp [eval_put_ne, eval_put_eq, size_put, hts]) (by simp [size_put, hts])) (r_neq3 (i := ((s.crashed ks).ws.length : Int)) (by simp [eval_put_ne, eval_put_eq, size_put, hts]) (by simp [eval_put_ne, eval_put_eq, size_put, hts])) hS1 ?_
            refine dnD 13 230 (v := .bool false) rfl rfl (by kernel_rfl) (wanted_none rfl) (r_pickF (by simp [eval_put_ne, eval_put_eq, size_put, hts]) (by simp [eval_put_ne, eval_put_eq, size_put, hts])) hS1 ?_
            refine dnD 14 231 (v := .bool false) rfl rfl (by kernel_rfl) (wanted_none rfl) (r_move (by simp [eval_put_ne, eval_put_eq, size_put, hts])) hS1 ?_
            refine tkD 15 232 (v := .pointer (some ⟨d, 0, none⟩)) rfl rfl (by kernel_rfl) (by kernel_rfl) (by kernel_rfl) (wanted_some (j := 14) (d := 231) (bb := false) rfl rfl rfl (by simp [eval_put_ne, eval_put_eq, size_put, hts]) (by simp [size_put, hts])) (fun _ _ _ h => h) hS (fun U hU => r_move (by simp [eval_put_ne, eval_put_eq, size_put, hts, e5])) ?_
            refine tkD 17 234 (v := .pointer (some ⟨xb, 2, none⟩)) rfl rfl (by kernel_rfl) (by kernel_rfl) (by kernel_rfl) (wanted_some (j := 14) (d := 231) (bb := false) rfl rfl rfl (by simp [eval_put_ne, eval_put_eq, size_put, hts]) (by simp [size_put, hts])) (fun _ _ _ h => h) hS (fun U hU => r_fld40 (i := 2) (by decide) (by simp [eval_put_ne, eval_put_eq, size_put, hts, e9])) ?_
            refine tkD 18 235 (v := .int .i64 ((s.crashed ks).calls : Int)) rfl rfl (by kernel_rfl) (by kernel_rfl) (by kernel_rfl) (wanted_some (j := 14) (d := 231) (bb := false) rfl rfl rfl (by simp [eval_put_ne, eval_put_eq, size_put, hts]) (by simp [size_put, hts])) (fun _ _ _ h => h) hS (fun U hU => r_ld3 (b := xb) (i := 2) (by simp [eval_put_ne, eval_put_eq, size_put, hts]) (hU.cell 2)) ?_
            refine clD 16 233 (v := .int .i64 ((s.crashed ks).calls : Int)) rfl rfl (by kernel_rfl) (wanted_some (j := 14) (d := 231) (bb := false) rfl rfl rfl (by simp [eval_put_ne, eval_put_eq, size_put, hts]) (by simp [size_put, hts])) (r_call1 Try.func16 (by kernel_rfl) rfl rfl (by simp [eval_put_ne, eval_put_eq, size_put, hts])) (hPb.ask fun G h => h.calls) hS1 ?_
            refine dnD 19 236 (v := .bool false) rfl rfl (by kernel_rfl) (wanted_some (j := 14) (d := 231) (bb := false) rfl rfl rfl (by simp [eval_put_ne, eval_put_eq, size_put, hts]) (by simp [size_put, hts])) (r_neq3 (i := ((s.crashed ks).calls : Int)) (by simp [eval_put_ne, eval_put_eq, size_put, hts]) (by simp [eval_put_ne, eval_put_eq, size_put, hts])) hS1 ?_
            refine dnD 20 237 (v := .bool false) rfl rfl (by kernel_rfl) (wanted_none rfl) (r_pickF (by simp [eval_put_ne, eval_put_eq, size_put, hts]) (by simp [eval_put_ne, eval_put_eq, size_put, hts])) hS1 ?_
            refine dnD 21 238 (v := .bool false) rfl rfl (by kernel_rfl) (wanted_none rfl) (r_move (by simp [eval_put_ne, eval_put_eq, size_put, hts])) hS1 ?_
            refine tkD 22 239 (v := .pointer (some ⟨d, 0, none⟩)) rfl rfl (by kernel_rfl) (by kernel_rfl) (by kernel_rfl) (wanted_some (j := 21) (d := 238) (bb := false) rfl rfl rfl (by simp [eval_put_ne, eval_put_eq, size_put, hts]) (by simp [size_put, hts])) (fun _ _ _ h => h) hS (fun U hU => r_move (by simp [eval_put_ne, eval_put_eq, size_put, hts, e5])) ?_
            refine tkD 24 241 (v := .pointer (some ⟨xb, 4, none⟩)) rfl rfl (by kernel_rfl) (by kernel_rfl) (by kernel_rfl) (wanted_some (j := 21) (d := 238) (bb := false) rfl rfl rfl (by simp [eval_put_ne, eval_put_eq, size_put, hts]) (by simp [size_put, hts])) (fun _ _ _ h => h) hS (fun U hU => r_fld40 (i := 4) (by decide) (by simp [eval_put_ne, eval_put_eq, size_put, hts, e9])) ?_
            refine tkD 25 242 (v := .bool (s.crashed ks).off) rfl rfl (by kernel_rfl) (by kernel_rfl) (by kernel_rfl) (wanted_some (j := 21) (d := 238) (bb := false) rfl rfl rfl (by simp [eval_put_ne, eval_put_eq, size_put, hts]) (by simp [size_put, hts])) (fun _ _ _ h => h) hS (fun U hU => r_ld4 (b := xb) (i := 4) (by simp [eval_put_ne, eval_put_eq, size_put, hts]) (hU.cell 4)) ?_
            refine clD 23 240 (v := .bool (s.crashed ks).off) rfl rfl (by kernel_rfl) (wanted_some (j := 21) (d := 238) (bb := false) rfl rfl rfl (by simp [eval_put_ne, eval_put_eq, size_put, hts]) (by simp [size_put, hts])) (r_call1 Try.func18 (by kernel_rfl) rfl rfl (by simp [eval_put_ne, eval_put_eq, size_put, hts])) (hPb.ask fun G h => h.isOff) hS1 ?_
            refine dnD 26 243 (v := .bool false) rfl rfl (by kernel_rfl) (wanted_some (j := 21) (d := 238) (bb := false) rfl rfl rfl (by simp [eval_put_ne, eval_put_eq, size_put, hts]) (by simp [size_put, hts])) (r_neq4 (i := (s.crashed ks).off) (by simp [eval_put_ne, eval_put_eq, size_put, hts]) (by simp [eval_put_ne, eval_put_eq, size_put, hts])) hS1 ?_
            refine dnD 27 244 (v := .bool false) rfl rfl (by kernel_rfl) (wanted_none rfl) (r_pickF (by simp [eval_put_ne, eval_put_eq, size_put, hts]) (by simp [eval_put_ne, eval_put_eq, size_put, hts])) hS1 ?_
            refine wpAnyH_done (by kernel_rfl) ?_ _
            clear e5 e9 hts hS hS1 hheap hka hPa hgc
            rw [hfr.out]
            clear hfr
            simp only [put_lit, List.set_cons_succ, List.set_cons_zero]
            have HPb := hide hPb.bare
            clear hPb
            go_wp2
            go_roundw
            case rel => exact ⟨k + 1, (s.crashed ks), (.slice none 0 0), by omega, by omega, by go_num, HPb.out, by simp [DS.crashed]; omega, by simp [DS.crashed]⟩
            case measure => simp [intOf]; omega
          case k5 =>
            rintro rfl
            have c0 : w7.cell? ⟨wr.heap.size, 0, none⟩ = some (.int .i64 kd) := (HP7.out.ex (x := (wr.heap.size, [Value.int .i64 kd, .int .i64 a, .int .i64 m, .slice bo B.length bc, .slice kao ks.length kcap], 44)) (by simp)).cell 0; have c1 : w7.cell? ⟨wr.heap.size, 1, none⟩ = some (.int .i64 a) := (HP7.out.ex (x := (wr.heap.size, [Value.int .i64 kd, .int .i64 a, .int .i64 m, .slice bo B.length bc, .slice kao ks.length kcap], 44)) (by simp)).cell 1; have c2 : w7.cell? ⟨wr.heap.size, 2, none⟩ = some (.int .i64 m) := (HP7.out.ex (x := (wr.heap.size, [Value.int .i64 kd, .int .i64 a, .int .i64 m, .slice bo B.length bc, .slice kao ks.length kcap], 44)) (by simp)).cell 2; have c3 : w7.cell? ⟨wr.heap.size, 3, none⟩ = some (.slice bo B.length bc) := (HP7.out.ex (x := (wr.heap.size, [Value.int .i64 kd, .int .i64 a, .int .i64 m, .slice bo B.length bc, .slice kao ks.length kcap], 44)) (by simp)).cell 3; have c4 : w7.cell? ⟨wr.heap.size, 4, none⟩ = some (.slice kao ks.length kcap) := (HP7.out.ex (x := (wr.heap.size, [Value.int .i64 kd, .int .i64 a, .int .i64 m, .slice bo B.length bc, .slice kao ks.length kcap], 44)) (by simp)).cell 4
            have b7 := HP7.out.blk
            go_wp2_with (first
              | ((with_reducible refine aw_load (dst := some 109) Try.agg40 rfl b7 HL5.out HLd.out ?_))
              | (go_at_call 24; refine (refTurnR w7 s n HP7.out.facts.2.2.1 HP7.out.facts.2.1 HP7.out.facts.2.2.2.1 rv HP7.out.own a m ha).mono ?_; rintro e w8 ⟨rv2, rfl, hrow, hk8⟩; rw [refL_A]; have hP8 := HP7.out.same hk8; have b8 := hP8.blk; clear c0 c1 c2 c3 c4; have c0 : w8.cell? ⟨wr.heap.size, 0, none⟩ = some (.int .i64 kd) := (hP8.ex (x := (wr.heap.size, [Value.int .i64 kd, .int .i64 a, .int .i64 m, .slice bo B.length bc, .slice kao ks.length kcap], 44)) (by simp)).cell 0; have c1 : w8.cell? ⟨wr.heap.size, 1, none⟩ = some (.int .i64 a) := (hP8.ex (x := (wr.heap.size, [Value.int .i64 kd, .int .i64 a, .int .i64 m, .slice bo B.length bc, .slice kao ks.length kcap], 44)) (by simp)).cell 1; have c2 : w8.cell? ⟨wr.heap.size, 2, none⟩ = some (.int .i64 m) := (hP8.ex (x := (wr.heap.size, [Value.int .i64 kd, .int .i64 a, .int .i64 m, .slice bo B.length bc, .slice kao ks.length kcap], 44)) (by simp)).cell 2; have c3 : w8.cell? ⟨wr.heap.size, 3, none⟩ = some (.slice bo B.length bc) := (hP8.ex (x := (wr.heap.size, [Value.int .i64 kd, .int .i64 a, .int .i64 m, .slice bo B.length bc, .slice kao ks.length kcap], 44)) (by simp)).cell 3; have c4 : w8.cell? ⟨wr.heap.size, 4, none⟩ = some (.slice kao ks.length kcap) := (hP8.ex (x := (wr.heap.size, [Value.int .i64 kd, .int .i64 a, .int .i64 m, .slice bo B.length bc, .slice kao ks.length kcap], 44)) (by simp)).cell 4; have HR1 := hide (rowStep_one (s.turnR n a m).1 hrow HP7.out.slice))
              | ((with_reducible refine aw_store (x := .tmp 9) (M := refL (s.turnR n a m).1 rv2) Try.agg40 rfl rfl (refL_len _ _) HR1.out b8 HL5.out ?_); intro w9 hw9 hk9 hz9; rw [put_whole _ _ (by rw [refL_len, refL_len])] at hw9; have Hz9 := hide hz9; clear hz9; have hP9 := HP7.out.ref hk8 hrow hk9 hw9; clear c0 c1 c2 c3 c4; have c0 : w9.cell? ⟨wr.heap.size, 0, none⟩ = some (.int .i64 kd) := (hP9.ex (x := (wr.heap.size, [Value.int .i64 kd, .int .i64 a, .int .i64 m, .slice bo B.length bc, .slice kao ks.length kcap], 44)) (by simp)).cell 0; have c1 : w9.cell? ⟨wr.heap.size, 1, none⟩ = some (.int .i64 a) := (hP9.ex (x := (wr.heap.size, [Value.int .i64 kd, .int .i64 a, .int .i64 m, .slice bo B.length bc, .slice kao ks.length kcap], 44)) (by simp)).cell 1; have c2 : w9.cell? ⟨wr.heap.size, 2, none⟩ = some (.int .i64 m) := (hP9.ex (x := (wr.heap.size, [Value.int .i64 kd, .int .i64 a, .int .i64 m, .slice bo B.length bc, .slice kao ks.length kcap], 44)) (by simp)).cell 2; have c3 : w9.cell? ⟨wr.heap.size, 3, none⟩ = some (.slice bo B.length bc) := (hP9.ex (x := (wr.heap.size, [Value.int .i64 kd, .int .i64 a, .int .i64 m, .slice bo B.length bc, .slice kao ks.length kcap], 44)) (by simp)).cell 3; have c4 : w9.cell? ⟨wr.heap.size, 4, none⟩ = some (.slice kao ks.length kcap) := (hP9.ex (x := (wr.heap.size, [Value.int .i64 kd, .int .i64 a, .int .i64 m, .slice bo B.length bc, .slice kao ks.length kcap], 44)) (by simp)).cell 4)
              | (go_at_call 13; refine (hP9.dev (fun G h => h.turnR a m ha)).mono ?_; rintro e w10 ⟨rfl, hP10⟩; clear c0 c1 c2 c3 c4; have c0 : w10.cell? ⟨wr.heap.size, 0, none⟩ = some (.int .i64 kd) := (hP10.ex (x := (wr.heap.size, [Value.int .i64 kd, .int .i64 a, .int .i64 m, .slice bo B.length bc, .slice kao ks.length kcap], 44)) (by simp)).cell 0; have c1 : w10.cell? ⟨wr.heap.size, 1, none⟩ = some (.int .i64 a) := (hP10.ex (x := (wr.heap.size, [Value.int .i64 kd, .int .i64 a, .int .i64 m, .slice bo B.length bc, .slice kao ks.length kcap], 44)) (by simp)).cell 1; have c2 : w10.cell? ⟨wr.heap.size, 2, none⟩ = some (.int .i64 m) := (hP10.ex (x := (wr.heap.size, [Value.int .i64 kd, .int .i64 a, .int .i64 m, .slice bo B.length bc, .slice kao ks.length kcap], 44)) (by simp)).cell 2; have c3 : w10.cell? ⟨wr.heap.size, 3, none⟩ = some (.slice bo B.length bc) := (hP10.ex (x := (wr.heap.size, [Value.int .i64 kd, .int .i64 a, .int .i64 m, .slice bo B.length bc, .slice kao ks.length kcap], 44)) (by simp)).cell 3; have c4 : w10.cell? ⟨wr.heap.size, 4, none⟩ = some (.slice kao ks.length kcap) := (hP10.ex (x := (wr.heap.size, [Value.int .i64 kd, .int .i64 a, .int .i64 m, .slice bo B.length bc, .slice kao ks.length kcap], 44)) (by simp)).cell 4)
              | (with_reducible refine stop_bin .rem ?_))
            have HP10 := hide hP10
            clear hP8 hP9 hP10 hrow b7 b8 hk8 hk9 hw9
            refine hide ?_
            refine wpList_run rfl (r_rem6 (v := IntKind.u64.wrap kd) (q := 5) rfl rfl hv0 HQ.out) ?_
            obtain ⟨ro9, rc9, hsl9⟩ := HP10.out.slice
            have HSl9 := hide hsl9
            clear hsl9
            go_wp2_with fail
            refine hold_frame (p := fun fr => Code.wp Try.prog _ _ fr _) ?_
            intro fr hfr
            have e5 : fr.eval (.tmp 5) = .pointer (some ⟨d, 0, none⟩) := by rw [hfr.out]; rfl
            have e9 : fr.eval (.tmp 9) = .pointer (some ⟨xb, 0, none⟩) := by rw [hfr.out]; rfl
            have hts : fr.tmps.size = 250 := by rw [hfr.out]; rfl
            refine region_held (S := fun U => Blk U xb (refL (s.turnR n a m).1 rv2) 40) Try.mixed ?_
            intro wa hka hheap
            have hPa := HP10.out.same hka
            have hS := hPa.blk
            refine tkD 0 217 (v := .pointer (some ⟨d, 0, none⟩)) rfl rfl (by kernel_rfl) (by kernel_rfl) (by kernel_rfl) (wanted_none rfl) (fun _ _ _ h => h) hS (fun U hU => r_move (by simp [eval_put_ne, eval_put_eq, size_put, hts, e5])) ?_
            refine tkD 3 220 (v := .pointer (some ⟨xb, 0, none⟩)) rfl rfl (by kernel_rfl) (by kernel_rfl) (by kernel_rfl) (wanted_none rfl) (fun _ _ _ h => h) hS (fun U hU => r_fld40 (i := 0) (by decide) (by simp [eval_put_ne, eval_put_eq, size_put, hts, e9])) ?_
            refine tkD 4 221 (v := .string (strV (s.turnR n a m).1.st)) rfl rfl (by kernel_rfl) (by kernel_rfl) (by kernel_rfl) (wanted_none rfl) (fun _ _ _ h => h) hS (fun U hU => r_ld9 (b := xb) (i := 0) (by simp [eval_put_ne, eval_put_eq, size_put, hts]) (hU.cell 0)) ?_
            refine clWD 1 218 rfl rfl (by kernel_rfl) (wanted_none rfl) (r_call1 Try.func17 (by kernel_rfl) rfl rfl (by simp [eval_put_ne, eval_put_eq, size_put, hts])) (hPa.img) ?_
            rintro e wb ⟨g, rfl, hgc, hPb⟩
            have hS1 := hPb.blk
            refine ⟨_, rfl, hS1, ?_⟩
            clear hS
            have hS := hS1
            refine dnD 2 219 (v := .string (strV (s.turnR n a m).1.st)) rfl rfl (by kernel_rfl) (wanted_none rfl) (r_str (b := g) (so := 0) (len := n * 64) (cap := n * 64) (by simp [eval_put_ne, eval_put_eq, size_put, hts]) hgc (by rw [hPb.facts.2.2.1, Nat.mul_comm]) hPb.facts.2.2.2.1) hS1 ?_
            refine dnD 5 222 (v := .bool false) rfl rfl (by kernel_rfl) (wanted_none rfl) (r_neq9 (s := strV (s.turnR n a m).1.st) (by simp [eval_put_ne, eval_put_eq, size_put, hts]) (by simp [eval_put_ne, eval_put_eq, size_put, hts])) hS1 ?_
            refine dnD 6 223 (v := .bool false) rfl rfl (by kernel_rfl) (wanted_none rfl) (r_move (by simp [eval_put_ne, eval_put_eq, size_put, hts])) hS1 ?_
            refine tkD 7 224 (v := .pointer (some ⟨d, 0, none⟩)) rfl rfl (by kernel_rfl) (by kernel_rfl) (by kernel_rfl) (wanted_some (j := 6) (d := 223) (bb := false) rfl rfl rfl (by simp [eval_put_ne, eval_put_eq, size_put, hts]) (by simp [size_put, hts])) (fun _ _ _ h => h) hS (fun U hU => r_move (by simp [eval_put_ne, eval_put_eq, size_put, hts, e5])) ?_
            refine tkD 9 226 (v := .pointer (some ⟨xb, 1, none⟩)) rfl rfl (by kernel_rfl) (by kernel_rfl) (by kernel_rfl) (wanted_some (j := 6) (d := 223) (bb := false) rfl rfl rfl (by simp [eval_put_ne, eval_put_eq, size_put, hts]) (by simp [size_put, hts])) (fun _ _ _ h => h) hS (fun U hU => r_fld40 (i := 1) (by decide) (by simp [eval_put_ne, eval_put_eq, size_put, hts, e9])) ?_
            refine tkD 10 227 (v := .slice ro9 (s.turnR n a m).1.ws.length rc9) rfl rfl (by kernel_rfl) (by kernel_rfl) (by kernel_rfl) (wanted_some (j := 6) (d := 223) (bb := false) rfl rfl rfl (by simp [eval_put_ne, eval_put_eq, size_put, hts]) (by simp [size_put, hts])) (fun _ _ _ h => h) hS (fun U hU => r_ld38 (b := xb) (i := 1) (by simp [eval_put_ne, eval_put_eq, size_put, hts]) ((hU.cell 1).trans (congrArg some HSl9.out))) ?_
            refine tkD 11 228 (v := .int .i64 ((s.turnR n a m).1.ws.length : Int)) rfl rfl (by kernel_rfl) (by kernel_rfl) (by kernel_rfl) (wanted_some (j := 6) (d := 223) (bb := false) rfl rfl rfl (by simp [eval_put_ne, eval_put_eq, size_put, hts]) (by simp [size_put, hts])) (fun _ _ _ h => h) hS (fun U hU => r_len38 (ao := ro9) (c := rc9) (by simp [eval_put_ne, eval_put_eq, size_put, hts])) ?_
            refine clD 8 225 (v := .int .i64 ((s.turnR n a m).1.ws.length : Int)) rfl rfl (by kernel_rfl) (wanted_some (j := 6) (d := 223) (bb := false) rfl rfl rfl (by simp [eval_put_ne, eval_put_eq, size_put, hts]) (by simp [size_put, hts])) (r_call1 Try.func15 (by kernel_rfl) rfl rfl (by simp [eval_put_ne, eval_put_eq, size_put, hts])) (hPb.ask fun G h => h.waiting) hS1 ?_
            refine dnD 12 229 (v := .bool false) rfl rfl (by kernel_rfl) (wanted_some (j := 6) (d := 223) (bb := false) rfl rfl rfl (by simp [eval_put_ne, eval_put_eq, size_put, hts]) (by simp [size_put, hts])) (r_neq3 (i := ((s.turnR n a m).1.ws.length : Int)) (by simp [eval_put_ne, eval_put_eq, size_put, hts]) (by simp [eval_put_ne, eval_put_eq, size_put, hts])) hS1 ?_
            refine dnD 13 230 (v := .bool false) rfl rfl (by kernel_rfl) (wanted_none rfl) (r_pickF (by simp [eval_put_ne, eval_put_eq, size_put, hts]) (by simp [eval_put_ne, eval_put_eq, size_put, hts])) hS1 ?_
            refine dnD 14 231 (v := .bool false) rfl rfl (by kernel_rfl) (wanted_none rfl) (r_move (by simp [eval_put_ne, eval_put_eq, size_put, hts])) hS1 ?_
            refine tkD 15 232 (v := .pointer (some ⟨d, 0, none⟩)) rfl rfl (by kernel_rfl) (by kernel_rfl) (by kernel_rfl) (wanted_some (j := 14) (d := 231) (bb := false) rfl rfl rfl (by simp [eval_put_ne, eval_put_eq, size_put, hts]) (by simp [size_put, hts])) (fun _ _ _ h => h) hS (fun U hU => r_move (by simp [eval_put_ne, eval_put_eq, size_put, hts, e5])) ?_
            refine tkD 17 234 (v := .pointer (some ⟨xb, 2, none⟩)) rfl rfl (by kernel_rfl) (by kernel_rfl) (by kernel_rfl) (wanted_some (j := 14) (d := 231) (bb := false) rfl rfl rfl (by simp [eval_put_ne, eval_put_eq, size_put, hts]) (by simp [size_put, hts])) (fun _ _ _ h => h) hS (fun U hU => r_fld40 (i := 2) (by decide) (by simp [eval_put_ne, eval_put_eq, size_put, hts, e9])) ?_
            refine tkD 18 235 (v := .int .i64 ((s.turnR n a m).1.calls : Int)) rfl rfl (by kernel_rfl) (by kernel_rfl) (by kernel_rfl) (wanted_some (j := 14) (d := 231) (bb := false) rfl rfl rfl (by simp [eval_put_ne, eval_put_eq, size_put, hts]) (by simp [size_put, hts])) (fun _ _ _ h => h) hS (fun U hU => r_ld3 (b := xb) (i := 2) (by simp [eval_put_ne, eval_put_eq, size_put, hts]) (hU.cell 2)) ?_
            refine clD 16 233 (v := .int .i64 ((s.turnR n a m).1.calls : Int)) rfl rfl (by kernel_rfl) (wanted_some (j := 14) (d := 231) (bb := false) rfl rfl rfl (by simp [eval_put_ne, eval_put_eq, size_put, hts]) (by simp [size_put, hts])) (r_call1 Try.func16 (by kernel_rfl) rfl rfl (by simp [eval_put_ne, eval_put_eq, size_put, hts])) (hPb.ask fun G h => h.calls) hS1 ?_
            refine dnD 19 236 (v := .bool false) rfl rfl (by kernel_rfl) (wanted_some (j := 14) (d := 231) (bb := false) rfl rfl rfl (by simp [eval_put_ne, eval_put_eq, size_put, hts]) (by simp [size_put, hts])) (r_neq3 (i := ((s.turnR n a m).1.calls : Int)) (by simp [eval_put_ne, eval_put_eq, size_put, hts]) (by simp [eval_put_ne, eval_put_eq, size_put, hts])) hS1 ?_
            refine dnD 20 237 (v := .bool false) rfl rfl (by kernel_rfl) (wanted_none rfl) (r_pickF (by simp [eval_put_ne, eval_put_eq, size_put, hts]) (by simp [eval_put_ne, eval_put_eq, size_put, hts])) hS1 ?_
            refine dnD 21 238 (v := .bool false) rfl rfl (by kernel_rfl) (wanted_none rfl) (r_move (by simp [eval_put_ne, eval_put_eq, size_put, hts])) hS1 ?_
            refine tkD 22 239 (v := .pointer (some ⟨d, 0, none⟩)) rfl rfl (by kernel_rfl) (by kernel_rfl) (by kernel_rfl) (wanted_some (j := 21) (d := 238) (bb := false) rfl rfl rfl (by simp [eval_put_ne, eval_put_eq, size_put, hts]) (by simp [size_put, hts])) (fun _ _ _ h => h) hS (fun U hU => r_move (by simp [eval_put_ne, eval_put_eq, size_put, hts, e5])) ?_
            refine tkD 24 241 (v := .pointer (some ⟨xb, 4, none⟩)) rfl rfl (by kernel_rfl) (by kernel_rfl) (by kernel_rfl) (wanted_some (j := 21) (d := 238) (bb := false) rfl rfl rfl (by simp [eval_put_ne, eval_put_eq, size_put, hts]) (by simp [size_put, hts])) (fun _ _ _ h => h) hS (fun U hU => r_fld40 (i := 4) (by decide) (by simp [eval_put_ne, eval_put_eq, size_put, hts, e9])) ?_
            refine tkD 25 242 (v := .bool (s.turnR n a m).1.off) rfl rfl (by kernel_rfl) (by kernel_rfl) (by kernel_rfl) (wanted_some (j := 21) (d := 238) (bb := false) rfl rfl rfl (by simp [eval_put_ne, eval_put_eq, size_put, hts]) (by simp [size_put, hts])) (fun _ _ _ h => h) hS (fun U hU => r_ld4 (b := xb) (i := 4) (by simp [eval_put_ne, eval_put_eq, size_put, hts]) (hU.cell 4)) ?_
            refine clD 23 240 (v := .bool (s.turnR n a m).1.off) rfl rfl (by kernel_rfl) (wanted_some (j := 21) (d := 238) (bb := false) rfl rfl rfl (by simp [eval_put_ne, eval_put_eq, size_put, hts]) (by simp [size_put, hts])) (r_call1 Try.func18 (by kernel_rfl) rfl rfl (by simp [eval_put_ne, eval_put_eq, size_put, hts])) (hPb.ask fun G h => h.isOff) hS1 ?_
            refine dnD 26 243 (v := .bool false) rfl rfl (by kernel_rfl) (wanted_some (j := 21) (d := 238) (bb := false) rfl rfl rfl (by simp [eval_put_ne, eval_put_eq, size_put, hts]) (by simp [size_put, hts])) (r_neq4 (i := (s.turnR n a m).1.off) (by simp [eval_put_ne, eval_put_eq, size_put, hts]) (by simp [eval_put_ne, eval_put_eq, size_put, hts])) hS1 ?_
            refine dnD 27 244 (v := .bool false) rfl rfl (by kernel_rfl) (wanted_none rfl) (r_pickF (by simp [eval_put_ne, eval_put_eq, size_put, hts]) (by simp [eval_put_ne, eval_put_eq, size_put, hts])) hS1 ?_
            refine wpAnyH_done (by kernel_rfl) ?_ _
            clear e5 e9 hts hS hS1 hheap hka hPa hgc
            rw [hfr.out]
            clear hfr
            simp only [put_lit, List.set_cons_succ, List.set_cons_zero]
            have HPb := hide hPb.bare
            clear hPb
            go_wp2
            go_roundw
            case rel => exact ⟨k + 1, (s.turnR n a m).1, rv2, by omega, by omega, by go_num, HPb.out, by have := (turnR_le s n a m).1; omega, by have := (turnR_le s n a m).2; omega⟩
            case measure => simp [intOf]; omega
    · have hs14 : Calls Try.prog 14 #[.pointer (some ⟨d, 0, none⟩)] wr fun e w' => e = .returned (.int .i64 n) ∧ wr = w' := by
        obtain ⟨_, _, G, hd, _⟩ := hpl
        exact hd.size
      have HS14 := hide hs14
      have HK := hide hpl.kept
      clear hs14 hpl
      go_wp2_with (go_at_call 14; refine HS14.out.mono ?_; rintro e w6 ⟨rfl, rfl⟩)
      go_ret
      exact ⟨rfl, HK.out⟩

end Go.Proofs.Ytjepiaacaemkhaa
