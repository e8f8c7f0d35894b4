/-
  Keys of an order of blocks.
-/
import Derived.Test.YtnlcmgdeohbmoaaJ14
import Derived.Test.YtnlcmgdeohbmoaaJ13
namespace Go.Proofs.Ytnlcmgdeohbmoaa
open Go.RowKit Go.Shelf
set_option linter.unusedSimpArgs false
set_option linter.unusedVariables false
set_option maxRecDepth 100000
attribute [local go_sem] Oper.semAt_some

/-- The word of the loop of Keys. -/
def KeysII (w : World) (Bk : Nat) (pre : List EntP) (F : Nat → Prop) (W : World) : Prop :=
  ∃ kv, Blk W Bk [kv] 49 ∧ W.ownsRow 0 3 1 kv pre.length (pre.map fun x => (Value.int .i64 (x.1))) ∧ F = footM Bk kv ∧ (∀ k, kv.ownBlock = some k → w.heap.size ≤ k) ∧ Kept (fun _ => False) w W
theorem KeysII.foot (w : World) (Bk B : Nat) (hB : w.heap.size ≤ B) : FootOk B (KeysII w Bk) := by
  refine ⟨?_, ?_⟩
  · rintro pre F _ A C row ⟨kv, hb, ho, rfl, hge, hk⟩ hg hr
    have hkg := Kept.of_grown hg
    have hn : ∀ k, IsCells A k → ¬ row = some k := fun k hc e => by
      obtain ⟨_, o, h1, h2⟩ := hr k e
      exact hc.not_loop h1 h2
    refine ⟨kv, hkg.blk hb (hn _ hb.isCells), ownsRow_kept ho hkg (fun k hk => hn k (ownsRow_cells ho hk)), rfl, hge, hk.trans hkg (fun i hi e => ?_)⟩
    have := (hr i e).1
    omega
  · rintro pre F A ⟨kv, hb, ho, rfl, hge, hk⟩ k (rfl | h) hB'
    · exact hb.isCells
    · exact ownsRow_cells ho h

set_option maxRecDepth 100000 in
set_option maxHeartbeats 4000000 in
theorem keys_coreP (w : World) (po : Option Addr) (l : List EntP) (X : Nat → Prop) (hX2 : ∀ k, X k → k < w.heap.size) (hl : l.length ≤ 1000000)
    (hs : ∀ W Bm, Kept (fun _ => False) w W → Blk W Bm [.pointer po] 74 → SeqAt Try.prog 55 #[.pointer (some ⟨Bm, 0, none⟩)] enc1P l X W) :
    Calls Try.prog 38 #[.pointer po] w fun e w' => ∃ kv, e = .returned kv ∧ w'.ownsRow 0 3 1 kv l.length (l.map fun x => (Value.int .i64 (x.1))) ∧ Kept (fun _ => False) w w' := by
  have HS := hide hs
  have HX2 := hide hX2
  clear hs hX2
  refine (callsIn_wide (n := 4)).1 (callsIn_of_wp_marks Try.func38 rfl trivial (wpIn_wide.2 ?_) rfl)
  simp only [Try.ntmps38, List.size_toArray, List.length_cons, List.length_nil, Nat.reduceAdd, Nat.reduceSub, Array.replicate_succ, Array.replicate_zero, List.push_toArray, List.append_toArray, List.nil_append, List.cons_append]
  obtain ⟨ik, hik, hzk, hsk, hbk⟩ := info_parts Try.info49
  have Hik := hide hik
  have Hzk := hide hzk
  clear hik hzk hsk hbk
  go_wp2_with (first
    | ((with_reducible refine aw_alloc (t := 49) Hik.out Hzk.out ?_); intro w1 hb1 hk1 hz1; have Hz1 := hide hz1; clear hz1)
    | (go_at_call 35; refine (all_atP w1 po).mono ?_; rintro e w2 ⟨rfl, hw2⟩; have HW2 := hide hw2; clear hw2))
  have hkw2 : Kept (fun _ => False) w1 w2 := by rw [HW2.out]; exact Kept.alloc _ _ _
  have hbm : Blk w2 w1.heap.size [.pointer po] 74 := by rw [HW2.out]; exact Blk.newA w1 _ _
  have hsz2 : w2.heap.size = w.heap.size + 2 := by rw [HW2.out]; simp [Hz1.out]
  have hk02 := hk1.trans hkw2 (fun _ _ h => h)
  have hbk : Blk w2 w.heap.size [.slice none 0 0] 49 := hkw2.blk hb1 (fun h => h)
  have Hsz2 := hide hsz2
  have hlt2 : w.heap.size < w2.heap.size := by omega
  clear hsz2 hb1
  obtain ⟨i0, hi0, hz0, hs0, hb0⟩ := info_parts Try.info3
  refine rangeF (gf := 55) (lb := #[.pointer (some ⟨w1.heap.size, 0, none⟩)]) rfl (enters_of Try.func55 (by kernel_rfl) rfl) (encs := enc1P) (xs := l) (X := X) (fun W hk => HS.out W _ (hk02.trans hk (fun _ _ h => h)) (hk.blk hbm (fun h => h))) (fun _ => rfl)
    (KeysII w w.heap.size) (fun _ _ _ => False) (KeysII.foot w w.heap.size _ (by omega)) (fun _ _ _ _ _ _ h _ _ => h) (footM w.heap.size (.slice none 0 0)) (fun k hk => by
      rcases hk with h | h
      · omega
      · simp [Value.ownBlock] at h) (fun k hk => ⟨by have := HX2.out k hk; omega, fun h => by
      rcases h with h | h
      · have := HX2.out k hk; omega
      · simp [Value.ownBlock] at h⟩)
    ⟨_, hbk, World.ownsRow_nil _ _ _ _, rfl, fun k h => by simp [Value.ownBlock] at h, hk02⟩
    (fun x a' W' => a' = { tmps := #[.pointer po, undef, .slice none 0 0, .pointer (some ⟨w.heap.size, 0, none⟩), (Value.int .i64 (x.1)), .pointer po, .func (.func 55) #[] #[.pointer (some ⟨w1.heap.size, 0, none⟩)], (Value.int .i64 (x.1)), .agg (BV x.2.B).toArray, undef, undef, undef, undef, undef], defers := [] })
    (fun _ _ _ _ _ _ h _ _ => h) ?assign ?body ?done ?stop
  case assign =>
    intro lp n pre x F A K hI hK
    obtain ⟨k, v⟩ := x
    simp only [enc1P]
    have HKK := hide hK
    clear hK
    gi_wp2
    exact HKK.out _ A (Kept.refl _ _) rfl
  case body =>
    rintro lp n pre x post F a' A hxs ⟨kv, hb, ho, rfl, hge, hk⟩ rfl
    obtain ⟨k, v⟩ := x
    have hlen : pre.length < l.length := by rw [hxs]; simp
    have c0 : A.cell? ⟨w.heap.size, 0, none⟩ = some kv := hb.cell 0
    have HB := hide hb
    have HO := hide ho
    have Hxs := hide hxs
    have Hge := hide hge
    clear hb ho hxs hge
    gi_wp2_with (with_reducible refine stopi_bs 49 ?_)
    refine hide ?_
    refine wpListIn_run rfl rfl (fun _ => by simp) (run_bs1 Try.underlying49 hi0 hz0 hs0 [(Value.int .i64 (k))] rfl (by simp) (by simp [Value.cells]) rfl) ?_
    have hbA := Blk.new A [(Value.int .i64 (k))] 3
    have hkA : Kept (fun _ => False) A (A.alloc (.cells [(Value.int .i64 (k))].toArray 3)) := Kept.alloc _ _ _
    have hszA : (A.alloc (.cells [(Value.int .i64 (k))].toArray 3)).heap.size = A.heap.size + 1 := by simp
    generalize A.alloc (.cells [(Value.int .i64 (k))].toArray 3) = A1 at hbA hkA hszA
    have hoA := ownsRow_kept HO.out hkA (fun _ _ h => h)
    obtain ⟨kv', A2, hr, h2, h3, _, h5⟩ := run_append_own_at (P := Try.prog) A1 0 49 49 3 i0 _ 1 _ Try.underlying49 hi0 hz0 hs0 hb0 rfl (by decide) kv pre.length _ hoA ⟨A.heap.size, 0, none⟩ 1 1 [(Value.int .i64 (k))] rfl (fun j u hj => by rw [addr_add, hbA.cell, Nat.zero_add]; exact hj) (by simp [Value.oneCell']) (by unfold maxLen; omega) (by omega) (Nat.zero_le _)
    have hkA2 := Kept.of_grown h3
    have hne : kv.ownBlock ≠ some w.heap.size := ownsRow_blk_ne HO.out HB.out (by decide)
    have hb2 : Blk A2 w.heap.size [kv] 49 := hkA2.blk (hkA.blk HB.out (fun h => h)) hne
    have c2 : A2.cell? ⟨w.heap.size, 0, none⟩ = some kv := hb2.cell 0
    have f2 : A2.frozen? ⟨w.heap.size, 0, none⟩ = false := hb2.frozen 0
    try simp only [put_lit, List.set_cons_succ, List.set_cons_zero]
    refine wpListIn_run rfl rfl (fun _ => by simp) (r_app rfl rfl hr) ?_
    obtain ⟨ao, n3, cp3, rfl⟩ := ownsRow_slice3 h2
    have HO2 := hide h2
    have HB2 := hide hb2
    have H5 := hide h5
    have Hsz := hide hszA
    clear hr h2 h3 h5 hbA hoA hszA c0 hb2
    try simp only [put_lit, List.set_cons_succ, List.set_cons_zero]
    gi_wp2
    have hks := Kept.setCell (S := fun j => j = w.heap.size) A2 ⟨w.heap.size, 0, none⟩ (.slice ao n3 cp3) rfl
    have hkAA : Kept (footM w.heap.size kv) A (A2.setCell ⟨w.heap.size, 0, none⟩ (.slice ao n3 cp3)) := ((hkA.mono (T := footM w.heap.size kv) (fun _ _ h => h.elim)).trans hkA2 (fun _ _ h => .inr h)).trans hks (fun _ _ h => .inl h)
    refine ⟨footM w.heap.size (.slice ao n3 cp3), ⟨_, HB2.out.setCell 0 _, ?_, rfl, ?_, ?_⟩, hkAA, ?_⟩
    · have := ownsRow_kept HO2.out hks (fun j hj e => by
        rcases H5.out with h | h
        · rw [h] at hj; exact hne (by rw [hj, e])
        · rw [h] at hj; cases hj; have := HB.out.lt; have := Hsz.out; omega)
      simpa using this
    · intro j hj
      rcases H5.out with h | h
      · rw [h] at hj; exact Hge.out j hj
      · rw [h] at hj; cases hj; have := hk.size; have := Hsz.out; omega
    · refine hk.trans hkAA (fun j hj h => ?_)
      rcases h with h | h
      · omega
      · have := Hge.out j h; omega
    · rintro j (h | h)
      · exact .inl (.inl h)
      · rcases H5.out with h' | h'
        · rw [h'] at h; exact .inl (.inr h)
        · rw [h'] at h; cases h; have := Hsz.out; exact .inr (by omega)
  case done =>
    rintro D F A hD hI hK
    have hI2 := ownU_put ((KeysII.foot w w.heap.size w2.heap.size (by omega)).own _ _) (.deferred none) hI (by omega) hK rfl
    obtain ⟨kv, hb, ho, rfl, hge, hk⟩ := hI
    have c0 : A.cell? ⟨w.heap.size, 0, none⟩ = some kv := hb.cell 0
    obtain ⟨kv2, hb2, ho2, _, hge2, hk2⟩ := hI2
    have hbD : Blk (A.putObj D (.deferred none)) w.heap.size [kv] 49 := (Kept.putObj _ _ _).blk hb (fun e => by
      unfold Blk at hb
      rw [e, hK] at hb
      cases hb)
    obtain rfl : kv2 = kv := by have := (hb2.same hbD).1; simpa using this
    have HO2 := hide ho2
    have HK2 := hide hk2
    clear hb ho hge hk hb2 ho2 hge2 hk2 hbD
    go_wp2
    refine ⟨by simp, .inl ⟨_, _, rfl, run_takeDeferred hK, ?_⟩⟩
    exact ⟨_, results_tmp rfl _ _ _, kv2, rfl, HO2.out, HK2.out⟩
  case stop =>
    rintro D pre F A hD hpre hJA hK
    exact hJA.elim

theorem keys_atP (w : World) (p : Nat) (v : Value) (l : List EntP) (h : MapP w p v l) (hl : l.length ≤ 1000000) :
    Calls Try.prog 38 #[.pointer (some ⟨p, 0, none⟩)] w fun e w' => ∃ kv, e = .returned kv ∧ w'.ownsRow 0 3 1 kv l.length (l.map fun x => (Value.int .i64 (x.1))) ∧ Kept (fun _ => False) w w' :=
  keys_coreP w _ l (footM p v) (by
    rintro k (h' | h')
    · rw [h']; exact h.blk.lt
    · exact ownsRow_lt h.own k h') hl (fun W Bm hk hb => all1_atP W Bm p v l hb (h.kept hk (fun h => h) (fun _ _ h => h)) hl)
theorem keys_nilP (w : World) : Calls Try.prog 38 #[.pointer none] w fun e w' => ∃ kv, e = .returned kv ∧ w'.ownsRow 0 3 1 kv 0 [] ∧ Kept (fun _ => False) w w' :=
  keys_coreP w _ [] (fun _ => False) (fun _ h => h.elim) (by simp) (fun W Bm hk hb => all1_nilP W Bm hb)

end Go.Proofs.Ytnlcmgdeohbmoaa

/-
  Operations on disks, as regions that draw their order meet them; ints that are appended.
-/
namespace Go.Proofs.Ytnlcmgdeohbmoaa
open Go.RowKit Go.Shelf
set_option linter.unusedSimpArgs false
set_option linter.unusedVariables false
set_option maxRecDepth 100000

theorem aw_push {P : Program} {ops : Array Oper} {Q : Exit → Act → World → Prop} {a : Act} {w : World} {rest : List Oper} {d1 d2 : Nat} {t ty1 ty2 e : TypeId} {pos1 pos2 : String} {aft1 aft2 : Array Edge} {x y : Operand} {i : TypeInfo} {z : Value} {bytes : Nat} {v o : Value} {n : Nat} {xs : List Value}
    (ht : P.underlying t = some (.slice e)) (hi : P.info? e = some i) (hz : i.zero = some z) (hs : i.size = 1) (hb : i.bytes = bytes) (hzc : z.cells.size = 1) (hby : bytes ≤ 1000) (hx : a.eval x = v) (hv : v.cells = #[v]) (hv1 : v.oneCell' = true)
    (hy : (a.put (some d1) (.slice (some ⟨w.heap.size, 0, none⟩) 1 1)).eval y = o) (hd : (a.put (some d1) (.slice (some ⟨w.heap.size, 0, none⟩) 1 1)).eval (.tmp d1) = .slice (some ⟨w.heap.size, 0, none⟩) 1 1) (ho : w.ownsRow 0 e 1 o n xs) (hl : n + 1 ≤ 100000000)
    (h : ∀ o' w', w'.ownsRow 0 e 1 o' (n + 1) (xs ++ [v]) → Kept (fun k => o.ownBlock = some k) w w' → (∀ k, o'.ownBlock = some k → o.ownBlock = some k ∨ w.heap.size ≤ k) → wpList P ops Q rest ((a.put (some d1) (.slice (some ⟨w.heap.size, 0, none⟩) 1 1)).put (some d2) o') w') :
    wpList P ops Q (⟨some d1, .buildSlice t 1 #[(0, x)], ty1, pos1, aft1, none⟩ :: ⟨some d2, .call { callee := .builtin .append, args := #[y, .tmp d1], argTypes := #[t, t] }, ty2, pos2, aft2, none⟩ :: rest) a w := by
  refine wpList_run rfl (run_bs1 ht hi hz hs [v] rfl (by simp) (by simpa using hv) (by simp [hx])) ?_
  have hbA := Blk.new w [v] e
  have hkA : Kept (fun _ => False) w (w.alloc (.cells [v].toArray e)) := Kept.alloc _ _ _
  have hszA : (w.alloc (.cells [v].toArray e)).heap.size = w.heap.size + 1 := by simp
  generalize w.alloc (.cells [v].toArray e) = A1 at hbA hkA hszA
  obtain ⟨o', A2, hr, h2, h3, h5⟩ := append_row (P := P) (ty := ty2) (u := .slice (some ⟨w.heap.size, 0, none⟩) 1 1) (vs := [v]) ht hi hz hs hb hzc hby (ownsRow_kept ho hkA (fun _ _ h => h)) ⟨_, 1, rfl, by simp, fun _ => ⟨_, 0, rfl, by have := hbA.cells 0 1; simpa using this⟩, fun h => by cases h⟩ (by simpa using hv1) (by simp; omega)
  refine wpList_run rfl (r_app hy hd hr) ?_
  refine h o' A2 (by simpa using h2) ((hkA.mono (T := fun k => o.ownBlock = some k) (fun _ _ h => h.elim)).trans h3 (fun _ _ h => h)) (fun k hk => ?_)
  rcases h5 with h' | h'
  · rw [h'] at hk; exact .inl hk
  · rw [h'] at hk; cases hk; exact .inr (by omega)
theorem stop_bs1 {P : Program} {ops : Array Oper} {Q : Exit → Act → World → Prop} {a : Act} {w : World} {rest : List Oper} {dst : Option Tmp} {ty : TypeId} {pos : String} {aft : Array Edge} {x : Operand} (t : TypeId) (h : Hid (wpList P ops Q (⟨dst, .buildSlice t 1 #[(0, x)], ty, pos, aft, none⟩ :: rest) a w)) : wpList P ops Q (⟨dst, .buildSlice t 1 #[(0, x)], ty, pos, aft, none⟩ :: rest) a w := h.out

def IV (L : List Nat) : List Value := L.map fun k : Nat => .int .i64 (k : Int)
theorem IV_append (a b : List Nat) : IV (a ++ b) = IV a ++ IV b := by simp [IV]
theorem IV_length (a : List Nat) : (IV a).length = a.length := by simp [IV]
/-- An own slice of ints in the making. -/
def Gath (W wr : World) (o : Value) (ys : List Nat) : Prop := wr.ownsRow 0 3 1 o ys.length (IV ys) ∧ (∀ b, o.ownBlock = some b → W.heap.size ≤ b) ∧ Kept (fun _ => False) W wr
theorem Gath.nil (W wr : World) (h : Kept (fun _ => False) W wr) : Gath W wr (.slice none 0 0) [] := ⟨World.ownsRow_nil _ _ _ _, fun b h => by simp [Value.ownBlock] at h, h⟩
theorem Gath.push {W wr w' : World} {o o' : Value} {ys : List Nat} {x : Nat} (h : Gath W wr o ys) (h1 : w'.ownsRow 0 3 1 o' (ys.length + 1) (IV ys ++ [.int .i64 x])) (h2 : Kept (fun k => o.ownBlock = some k) wr w') (h3 : ∀ k, o'.ownBlock = some k → o.ownBlock = some k ∨ wr.heap.size ≤ k) : Gath W w' o' (ys ++ [x]) := by
  refine ⟨by simpa [IV] using h1, fun b hb => ?_, h.2.2.trans h2 (fun k hk h' => ?_)⟩
  · rcases h3 b hb with h4 | h4
    · exact h.2.1 b h4
    · exact Nat.le_trans h.2.2.size h4
  · have := h.2.1 k h'
    omega
theorem Gath.kept {W wr w' : World} {o : Value} {ys : List Nat} (h : Gath W wr o ys) (hk : Kept (fun _ => False) wr w') : Gath W w' o ys := ⟨ownsRow_kept h.1 hk (fun _ _ h => h), h.2.1, h.2.2.trans hk (fun _ _ h => h)⟩
theorem Gath.src {W wr : World} {o : Value} {ys : List Nat} (h : Gath W wr o ys) : SrcV wr o (IV ys) := by
  have := h.1
  rw [← IV_length] at this
  exact ownsRow_src this

theorem srcv_int {w : World} {oa : Option Addr} {n c k : Nat} {ks : List Nat} (h : SrcV w (.slice oa n c) (IV ks)) (hk : k < ks.length) : ∃ gg gf, oa = some ⟨gg, gf, none⟩ ∧ w.cell? ⟨gg, gf + k, none⟩ = some (.int .i64 (ks[k] : Nat)) := by
  obtain ⟨ao, cap, e, _, hc, _⟩ := h
  simp only [Value.slice.injEq] at e
  obtain ⟨rfl, -, rfl⟩ := e
  obtain ⟨gg, gf, rfl, hcc⟩ := hc (by rw [IV_length]; omega)
  exact ⟨gg, gf, rfl, hcc k _ (by simp [IV, hk])⟩


section
variable {ρ : Operand → Value} {w : World} {dst : Option Tmp} {ty : TypeId} {pos : String} {aft : Array Edge} {gd : Option (Nat × Bool)} {x y z : Operand}
theorem r_nilChk {a : Addr} (hx : ρ x = .pointer (some a)) : (execOp ρ ⟨dst, .nilCheck x, ty, pos, aft, gd⟩).run Try.prog w = .ok (.value (.pointer (some a))) w := by
  go_simp
theorem r_f58 {b : Nat} (hx : ρ x = .pointer (some ⟨b, 0, none⟩)) : (execOp ρ ⟨dst, .fieldAddr 118 x 0, ty, pos, aft, gd⟩).run Try.prog w = .ok (.value (.pointer (some ⟨b, 0, none⟩))) w := by
  go_simp
theorem r_ld56 {b : Nat} {v : Value} (hx : ρ x = .pointer (some ⟨b, 0, none⟩)) (hb : Blk w b [v] 118) : (execOp ρ ⟨dst, .load 116 x, ty, pos, aft, gd⟩).run Try.prog w = .ok (.value v) w := by
  have hc : w.cell? ⟨b, 0, none⟩ = some v := hb.cell 0
  go_simp
theorem r_ix56 {b len cap : Nat} (i : Nat) (hx : ρ x = .slice (some ⟨b, 0, none⟩) len cap) (hy : ρ y = .int .i64 i) (hi : i < len) :
    (execOp ρ ⟨dst, .indexAddr 116 x y, ty, pos, aft, gd⟩).run Try.prog w = .ok (.value (.pointer (some ⟨b, 64 * i, none⟩))) w := by
  have h1 : (i : Int) < len := by omega
  rw [Nat.mul_comm]
  go_simp
theorem r_max3 {p q r : Int} (hx : ρ x = .int .i64 p) (hy : ρ y = .int .i64 q) (hr : max p q = r) : (execOp ρ ⟨dst, .call { callee := .builtin .max, args := #[x, y], argTypes := #[3, 3] }, ty, pos, aft, gd⟩).run Try.prog w = .ok (.value (.int .i64 r)) w := by
  subst hr
  by_cases h : p < q
  · go_simp
    omega
  · go_simp
    omega
theorem r_min3 {p q r : Int} (hx : ρ x = .int .i64 p) (hy : ρ y = .int .i64 q) (hr : min p q = r) : (execOp ρ ⟨dst, .call { callee := .builtin .min, args := #[x, y], argTypes := #[3, 3] }, ty, pos, aft, gd⟩).run Try.prog w = .ok (.value (.int .i64 r)) w := by
  subst hr
  by_cases h : p < q
  · go_simp
    omega
  · go_simp
    omega
/-- A block is read. -/
theorem r_ld62 {g n k : Nat} {B : List Nat} {C : List Value} (hx : ρ x = .pointer (some ⟨g, 64 * k, none⟩)) (hb : Blk w g (BV B ++ C) 119) (hl : B.length = 64 * n) (hk : k < n) :
    (execOp ρ ⟨dst, .load 119 x, ty, pos, aft, gd⟩).run Try.prog w = .ok (.value (.agg (BV (getB B k)).toArray)) w := by
  have hc := hb.cells (64 * k) 64
  rw [BV_block hl hk] at hc
  exact run_load_cells Try.agg119 hx (by rw [BV_length, getB_len hl hk]) hc
end
theorem run_part5 (w : World) (A : List Nat) (j : Nat) (hj : j < A.length) : (part 5 (BV A).toArray (j * 1)).run Try.prog w = .ok (.int .u8 (A[j] : Nat)) w := by
  have h : (BV A).toArray[j * 1]? = some (.int .u8 (A[j] : Nat)) := by
    rw [Nat.mul_one, List.getElem?_toArray, BV_get A j hj]
  unfold part
  simp [isAgg, run_underlying Try.underlying5, h]
  rw [Nat.mul_one, List.getElem?_toArray] at h
  simp [h]
theorem run_eq62 (d : Nat) (w : World) (A B : List Nat) (hA : A.length = 64) (hB : B.length = 64) : (Op.equalIn (d + 2) 119 (.agg (BV A).toArray) (.agg (BV B).toArray)).run Try.prog w = .ok (decide (A = B)) w := by
  obtain ⟨i0, hi0, hz0, hs0, hb0⟩ := info_parts Try.info5
  have hc5 : Try.prog.cellsOf 5 = 1 := by kernel_rfl
  rw [run_equalIn_array w (d + 1) _ _ Try.und62 hi0, hc5]
  have key : ∀ (js : List Nat), (∀ j ∈ js, j < 64) → (Op.eqItems (d + 1) 5 1 (BV A).toArray (BV B).toArray js).run Try.prog w = .ok (decide (∀ j ∈ js, A[j]? = B[j]?)) w := by
    intro js
    induction js with
    | nil => intro _; simp [Op.eqItems]
    | cons j js ih =>
      intro h
      have hj := h j (by simp)
      have ih := ih (fun k hk => h k (by simp [hk]))
      simp only [Op.eqItems, Sem.run_bind, run_part5 w A j (by omega), run_part5 w B j (by omega), Result.andThen_ok, run_equalIn_int w d 5 .u8 .u8 _ _ Try.underlying5]
      by_cases he : A[j] = B[j]
      · simp [he, ih, hA, hB, hj]
      · have : ¬ ((A[j] : Int) = (B[j] : Int)) := by omega
        simp [he, this, hA, hB, hj]
  rw [key _ (by simp)]
  congr 1
  apply decide_eq_decide.2
  constructor
  · intro h
    apply List.ext_getElem?
    intro i
    by_cases hi : i < 64
    · exact h i (by simpa using hi)
    · rw [List.getElem?_eq_none (by omega), List.getElem?_eq_none (by omega)]
  · rintro rfl
    simp
theorem r_neq62 {ρ : Operand → Value} {w : World} {dst : Option Tmp} {ty : TypeId} {x y : Operand} {pos : String} {aft : Array Edge} {gd : Option (Nat × Bool)} {A B : List Nat} (hx : ρ x = .agg (BV A).toArray) (hy : ρ y = .agg (BV B).toArray) (hA : A.length = 64) (hB : B.length = 64) {r : Bool} (hr : (!decide (A = B)) = r) :
    (execOp ρ ⟨dst, .binOp .neq 119 x y 119, ty, pos, aft, gd⟩).run Try.prog w = .ok (.value (.bool r)) w := by
  have hm : Try.prog.eqGuardType Try.prog.depth 119 = false := by kernel_rfl
  have h1 := run_neq_struct (P := Try.prog) w 119 (BV A).toArray (BV B).toArray
  rw [run_eq62 9998 w A B hA hB] at h1
  simp only [Result.andThen_ok] at h1
  subst hr
  have h2 := run_eqGuard_agg (P := Try.prog) w .neq 119 x y (BV A).toArray (BV B).toArray hm
  simp only [execOp, hx, hy]
  simp [h1, h2]
end Go.Proofs.Ytnlcmgdeohbmoaa
