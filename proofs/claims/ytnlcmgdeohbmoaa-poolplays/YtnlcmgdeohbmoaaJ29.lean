/-
  New and Image of a pool.
-/
import Derived.Test.YtnlcmgdeohbmoaaJ28
import Derived.Test.YtnlcmgdeohbmoaaJ25
import Derived.Test.YtnlcmgdeohbmoaaJ04
namespace Go.Proofs.Ytnlcmgdeohbmoaa
open Go.RowKit Go.Shelf
set_option linter.unusedSimpArgs false
set_option linter.unusedVariables false
set_option maxRecDepth 100000

theorem built76 (d : Option Addr) (f n : Int) : Try.prog.built 76 [(0, .pointer d), (1, .int .i64 f), (2, .int .i64 n)] = some #[.pointer d, .int .i64 f, .int .i64 n, .pointer none, .pointer none] := by kernel_rfl
theorem r_build76 {ρ : Operand → Value} {w : World} {dst : Option Tmp} {ty : TypeId} {pos : String} {aft : Array Edge} {gd : Option (Nat × Bool)} {x0 x1 x2 : Operand} {d : Option Addr} {f n : Int} (h0 : ρ x0 = .pointer d) (h1 : ρ x1 = .int .i64 f) (h2 : ρ x2 = .int .i64 n) :
    (execOp ρ ⟨dst, .build 76 #[(0, x0), (1, x1), (2, x2)], ty, pos, aft, gd⟩).run Try.prog w = .ok (.value (.agg #[.pointer d, .int .i64 f, .int .i64 n, .pointer none, .pointer none])) w := by
  have hr := run_build (P := Try.prog) w 76 #[(0, .pointer d), (1, .int .i64 f), (2, .int .i64 n)] _ (by simpa using built76 d f n)
  simp [execOp, h0, h1, h2, hr]
set_option maxHeartbeats 2000000 in
theorem poolnew_at (w : World) (db nd : Nat) (s : D.DS) (F : NSet) (h : D.DevAt w db nd s F) (fr n : Nat) (hn : 1 ≤ n ∧ n ≤ 64) (hf : fr + n ≤ nd) :
    Calls Try.prog 8 #[.pointer (some ⟨db, 0, none⟩), .int .i64 fr, .int .i64 n] w fun e w' => ∃ b, e = .returned (.tuple #[.pointer (some ⟨b, 0, none⟩), .int .i64 0]) ∧ Kept (fun _ => False) w w' ∧ ∃ X, PoolAt w' b db ⟨fr, n, [], []⟩ X ∧ ∀ k, X k → w.heap.size ≤ k := by
  have hn2 : nd ≤ 4096 := by obtain ⟨bs, wv, hd, _⟩ := h; exact hd.n2
  have HS := hide (D.size_at w db nd s F h)
  have h1 : ¬ ((n : Int) < 1) := by omega
  have h2 : ¬ (64 < (n : Int)) := by omega
  have h3 : ¬ ((fr : Int) < 0) := by omega
  have hsub : IntKind.i64.wrap ((nd : Int) - (fr : Int)) = ((nd - fr : Nat) : Int) := by rw [IntKind.wrap_i64]; omega
  have h4 : ¬ (((nd - fr : Nat) : Int) < (n : Int)) := by omega
  have hsub2 : ((nd : Int) - (fr : Int)) = ((nd - fr : Nat) : Int) := by omega
  clear h
  go_enter Try.func8, Try.ntmps8
  go_wp2_with (first
    | (go_at_call 27; refine HS.out.mono ?_; rintro e w1 ⟨rfl, rfl⟩)
    | (with_reducible refine stop_build 76 ?_))
  refine hide ?_
  refine wpList_run rfl (r_build76 rfl rfl rfl) ?_
  refine aw_box (v := .agg #[.pointer (some ⟨db, 0, none⟩), .int .i64 fr, .int .i64 n, .pointer none, .pointer none]) rfl ?_
  intro w1 hb1 hk1 hz1
  have HB1 := hide hb1
  have HK1 := hide hk1
  have hlt1 := hb1.lt
  clear hb1 hk1 hz1 hsub hsub2 h4
  simp only [put_lit, List.set_cons_succ, List.set_cons_zero]
  go_wp2_with fail
  refine (drop_core w1 w.heap.size db fr n _ _ HB1.out).mono ?_
  rintro e w2 ⟨rfl, hk2, X, hp, hX⟩
  have HP := hide hp
  have HX := hide hX
  have HK2 := hide hk2
  clear hk2 hp hX
  go_wp2
  go_ret2
  exact ⟨_, rfl, HK1.out.trans HK2.out (fun k hk h => by omega), X, HP.out, fun k hk => (HX.out k hk).elim (fun h => by omega) (fun h => by have := HK1.out.size; omega)⟩

/-- What Image tells. -/
def PL.imgE (l : PL) (s : D.DS) : Int := if (List.range l.n).all (fun m => decide (l.getE s m = 0)) then 0 else 10
def PL.imgK (l : PL) (s : D.DS) (k : Nat) : List Nat := (List.range k).flatMap (fun m => l.getV s m)
theorem getE_cases (l : PL) (s : D.DS) (m : Nat) : l.getE s m = 0 ∨ l.getE s m = 10 := by
  unfold PL.getE
  split
  · exact .inl rfl
  · split
    · exact .inr rfl
    · exact .inl rfl
theorem imgK_succ (l : PL) (s : D.DS) (k : Nat) : l.imgK s (k + 1) = l.imgK s k ++ l.getV s k := by
  unfold PL.imgK
  rw [List.range_succ, List.flatMap_append]
  simp
theorem getV_len {l : PL} {s : D.DS} {m nd : Nat} (h : l.getE s m = 0) (hv : s.view.length = 64 * nd) (hm : l.fr + m + 1 ≤ nd) : (l.getV s m).length = 64 := by
  unfold PL.getE at h
  unfold PL.getV
  split
  · rename_i x _; exact x.len
  · rename_i hg
    rw [hg] at h
    simp only at h
    split at h
    · cases h
    · rename_i ho
      rw [if_neg ho, NV_len, D.part_length _ nd _ 1 hv hm]
theorem imgK_len {l : PL} {s : D.DS} {nd : Nat} (hv : s.view.length = 64 * nd) (hf : l.fr + l.n ≤ nd) : ∀ {k : Nat}, k ≤ l.n → (∀ m, m < k → l.getE s m = 0) → (l.imgK s k).length = 64 * k
  | 0, _, _ => rfl
  | k + 1, hk, h => by
    rw [imgK_succ, List.length_append, imgK_len hv hf (by omega) (fun m hm => h m (by omega)), getV_len (h k (by omega)) hv (by omega)]
    omega
theorem Own.sl2 {w : World} {v : Value} {A : List Nat} (h : Own w 0 v A) : ∃ s : Sl, v = .slice s.a s.n s.c ∧ s.n = A.length := by
  obtain ⟨ao, c, e⟩ := ownsRow_slice h.1
  exact ⟨⟨ao, _, c⟩, e, by simp [BV_length]⟩
set_option maxHeartbeats 4000000 in
theorem poolimage_at (w : World) (db nd : Nat) (s : D.DS) (b : Nat) (l : PL) (F X : NSet) (h : PDv w db nd s b l F X) (hn : 1 ≤ l.n ∧ l.n ≤ 64) (hl : l.hand.length ≤ 1000000) :
    Calls Try.prog 12 #[.pointer (some ⟨b, 0, none⟩)] w fun e w' => ∃ d, e = .returned (.tuple #[d, .int .i64 (l.imgE s)]) ∧ Kept (fun _ => False) w w' ∧ (l.imgE s = 0 → DkAt w' d l.n (l.imgK s l.n)) ∧ (l.imgE s ≠ 0 → d = .pointer none) := by
  have HH := hide h
  obtain ⟨ph, vh, pd, vd, hp, hx⟩ := h.pool
  have c2 : w.cell? ⟨b, 2, none⟩ = some (.int .i64 l.n) := hp.blk.cell 2
  have HG := hide (fun (w' : World) (hk : Kept (fun _ => False) w w') (m : Nat) (hm : m < l.n) => poolget_at w' db nd s b l F X (h.kept hk) m hm hl)
  have HVw := hide h.dev.view
  have HFit := hide h.fit
  have HN := hide hn
  have hlt0 : (0 : Nat) ≤ w.heap.size := Nat.zero_le _
  clear h hp hx hn
  obtain ⟨n, hne⟩ : ∃ n, n = l.n := ⟨_, rfl⟩
  rw [← hne] at c2
  have HNe := hide hne
  clear hne
  go_enter Try.func12, Try.ntmps12
  go_wp2
  go_loopw [4, 14] (fun v i wr => ∃ (k : Nat) (so : Sl), i = .int .i64 k ∧ v = .slice so.a so.n so.c ∧ k ≤ n ∧ Hid (Own wr 0 so.v (l.imgK s k) ∧ ∀ j, so.v.ownBlock = some j → w.heap.size ≤ j) ∧ Hid (∀ m, m < k → l.getE s m = 0) ∧ Kept (fun _ => False) w wr)
    (fun _ i _ => n - (intOf i).toNat)
  case atStart => exact ⟨0, ⟨none, 0, 0⟩, rfl, rfl, Nat.zero_le _, hide ⟨Own.nil _ _, fun j hj => by simp [Value.ownBlock] at hj⟩, hide (fun m hm => by omega), Kept.refl _ _⟩
  case round =>
    obtain ⟨k, so, rfl, rfl, hk, HO, HE, hkr⟩ := hrel
    by_cases hlt : k < n
    · have hg := HG.out wr hkr k (by rw [← HNe.out]; exact hlt)
      rcases getE_cases l s k with he | he
      · rw [he] at hg
        have HGk := hide hg
        have HEk := hide he
        have HKr := hide hkr
        clear hg he hkr
        go_wp2_with fail
        refine HGk.out.mono ?_
        rintro e w1 ⟨sl, rfl, hsl, hk1⟩
        have hlen := imgK_len HVw.out.1 HFit.out (by have := HNe.out; omega) HE.out
        have hvl := getV_len HEk.out HVw.out.1 (by have := HFit.out; have := HNe.out; omega)
        have ho1 := HO.out.1.kept hk1 (fun _ _ h => h)
        obtain ⟨v', w2, hr, ho2, hk2, hv2⟩ := append_src ho1 hsl (by rw [hlen, hvl]; have := HN.out; have := HNe.out; omega) (Nat.zero_le _) 41
        obtain ⟨s2, rfl, -⟩ := ho2.sl2
        have HR := hide hr
        have HFIN : Hid ((Own w2 0 s2.v (l.imgK s (k + 1)) ∧ ∀ j, s2.v.ownBlock = some j → w.heap.size ≤ j) ∧ Kept (fun _ => False) w w2) := hide (by
          have z1 := HKr.out.size
          have z2 := hk1.size
          refine ⟨⟨by rw [imgK_succ]; exact ho2, fun j hj => ?_⟩, (HKr.out.trans hk1 (fun _ _ h => h)).trans hk2 (fun j hj h => by have := HO.out.2 j h; omega)⟩
          rcases hv2 with h | h
          · exact HO.out.2 j (by rw [← h]; exact hj)
          · have e : (Value.slice s2.a s2.n s2.c).ownBlock = some j := hj
            rw [h] at e
            cases e
            omega)
        have HE1 : Hid (∀ m, m < k + 1 → l.getE s m = 0) := hide (fun m hm => by
          rcases Nat.lt_succ_iff_lt_or_eq.1 hm with h | h
          · exact HE.out m h
          · rw [h]; exact HEk.out)
        have hk64 : (k : Int) < 64 := by have := HN.out; have := HNe.out; omega
        clear hsl hk1 hlen hvl ho1 hr ho2 hk2 hv2 HGk HEk HE HO
        go_wp2_with (with_reducible refine stop_app2 41 41 ?_)
        refine hide ?_
        refine wpList_run rfl (r_app rfl rfl HR.out) ?_
        try simp only [put_lit, put_none, List.set_cons_succ, List.set_cons_zero]
        go_wp2
        go_roundw
        case rel => exact ⟨k + 1, s2, by simp, rfl, by omega, hide HFIN.out.1, HE1, HFIN.out.2⟩
        case measure => simp [intOf]; omega
      · rw [he] at hg
        have HGk := hide hg
        have HEk := hide he
        have HKr := hide hkr
        have hie : l.imgE s = 10 := by
          unfold PL.imgE
          rw [if_neg]
          intro h
          rw [List.all_eq_true] at h
          have := h k (by rw [List.mem_range, ← HNe.out]; exact hlt)
          simp only [decide_eq_true_eq] at this
          rw [HEk.out] at this
          cases this
        have HIE := hide hie
        clear hg he hkr hie
        go_wp2_with fail
        refine HGk.out.mono ?_
        rintro e w1 ⟨sl, rfl, hsl, hk1⟩
        have HK1 := hide hk1
        clear hsl hk1
        go_wp2
        go_ret2
        exact ⟨.pointer none, by rw [HIE.out]; rfl, HKr.out.trans HK1.out (fun _ _ h => h), fun h => absurd (HIE.out.symm.trans h) (by decide), fun _ => rfl⟩
    · obtain rfl : k = n := by omega
      have hie : l.imgE s = 0 := by
        unfold PL.imgE
        rw [if_pos]
        rw [List.all_eq_true]
        intro m hm
        have := HE.out m (by rw [HNe.out]; exact List.mem_range.1 hm)
        simp [this]
      have hlen := imgK_len HVw.out.1 HFit.out (by have := HNe.out; omega) HE.out
      have HF := hide (from_ok wr _ (l.imgK s k) HO.out.1.src k hlen (by rw [HNe.out]; exact HN.out))
      have HIE := hide hie
      have HKr := hide hkr
      clear hie hlen hkr
      go_wp2_with (go_at_call 31; refine HF.out.mono ?_; rintro e w1 ⟨d, rfl, hd, hk1⟩; obtain ⟨pd, rfl, -⟩ := hd.ptr; have HD := hide hd; have HK1 := hide hk1; clear hd hk1)
      go_ret2
      exact ⟨_, by rw [HIE.out]; rfl, HKr.out.trans HK1.out (fun _ _ h => h), fun _ => by rw [← HNe.out]; exact HD.out, fun h => absurd HIE.out h⟩
end Go.Proofs.Ytnlcmgdeohbmoaa

/-
  A device's sectors as a list of lists of numbers; what writing, flushing and a crash make of them.
-/
namespace Go.Proofs.Ytnlcmgdeohbmoaa
open Go.RowKit Go.Shelf
set_option linter.unusedSimpArgs false
set_option linter.unusedVariables false
set_option maxRecDepth 100000

theorem flat_drop : ∀ (L : List (List Nat)) (p : Nat), (∀ x ∈ L, x.length = 64) → L.flatten.drop (64 * p) = (L.drop p).flatten
  | L, 0, _ => by simp
  | [], p + 1, _ => by simp
  | x :: L, p + 1, h => by
    have hx := h x (by simp)
    rw [List.flatten_cons, List.drop_append, hx, List.drop_eq_nil_of_le (by omega), List.nil_append, show 64 * (p + 1) - 64 = 64 * p by omega, flat_drop L p (fun y hy => h y (by simp [hy])), List.drop_succ_cons]
theorem flat_take : ∀ (L : List (List Nat)) (p : Nat), (∀ x ∈ L, x.length = 64) → L.flatten.take (64 * p) = (L.take p).flatten
  | L, 0, _ => by simp
  | [], p + 1, _ => by simp
  | x :: L, p + 1, h => by
    have hx := h x (by simp)
    rw [List.flatten_cons, List.take_append, hx, List.take_of_length_le (by omega), show 64 * (p + 1) - 64 = 64 * p by omega, flat_take L p (fun y hy => h y (by simp [hy])), List.take_succ_cons, List.flatten_cons]
theorem put_flat {L : List (List Nat)} {a : Nat} {A : List Nat} (h : ∀ x ∈ L, x.length = 64) (ha : a < L.length) (hA : A.length = 64) : put (BV L.flatten) (64 * a) (BV A) = BV (L.set a A).flatten := by
  unfold put
  rw [← BV_take, BV_length, hA, show 64 * a + 64 = 64 * (a + 1) by omega, ← BV_drop, flat_take L a h, flat_drop L (a + 1) h, ← BV_append, ← BV_append]
  congr 1
  rw [List.set_eq_take_append_cons_drop, if_pos ha, List.flatten_append, List.flatten_cons, List.append_assoc]
theorem part_flat {L : List (List Nat)} {p : Nat} (h : ∀ x ∈ L, x.length = 64) {A B : List Nat} (hA : L[p]? = some A) (hB : L[p + 1]? = some B) : D.part (BV L.flatten) p 2 = BV (A ++ B) := by
  obtain ⟨h1, e1⟩ := List.getElem?_eq_some_iff.1 hA
  obtain ⟨h2, e2⟩ := List.getElem?_eq_some_iff.1 hB
  unfold D.part
  rw [← BV_drop, flat_drop L p h, List.drop_eq_getElem_cons h1, List.drop_eq_getElem_cons h2, e1, e2]
  rw [List.flatten_cons, List.flatten_cons, ← BV_take]
  have lA := h A (e1 ▸ List.getElem_mem _)
  have lB := h B (e2 ▸ List.getElem_mem _)
  rw [← List.append_assoc, List.take_left' (by rw [List.length_append, lA, lB])]
theorem new_lit (n : Nat) : D.DS.new n = ⟨BV (List.replicate n (List.replicate 64 0)).flatten, [], 0, -1, false⟩ := by
  have : (List.replicate n (List.replicate 64 0)).flatten = List.replicate (n * 64) 0 := by
    rw [List.flatten_replicate_replicate]
  unfold D.DS.new
  rw [this]
  simp [BV]
theorem wErr_lit (st : List Value) (ws : List (Nat × List Value)) (c : Nat) (l : Int) : wErr ⟨st, ws, c, l, false⟩ = if l = 0 then 10 else 0 := by simp [wErr]
theorem wDev_zero (st : List Value) (ws : List (Nat × List Value)) (c a : Nat) (A : List Nat) : wDev ⟨st, ws, c, 0, false⟩ a 1 A = ⟨st, ws, c, 0, true⟩ := by simp [wDev, D.DS.spent]
theorem wDev_lit (st : List Value) (ws : List (Nat × List Value)) (c a : Nat) (l : Int) (hl : l ≠ 0) (A : List Nat) (hA : A.length = 64) : wDev ⟨st, ws, c, l, false⟩ a 1 A = ⟨st, ws ++ [(a, BV A)], c + 1, if 0 < l then l - 1 else l, false⟩ := by
  have e : D.secs a (BV A) 1 = [(a, BV A)] := by
    simp only [D.secs, List.range_one, List.map_cons, List.map_nil, Nat.add_zero, D.sec, Nat.mul_zero, List.drop_zero]
    rw [List.take_of_length_le (by rw [BV_length, hA]; exact Nat.le_refl _)]
  simp [wDev, hl, D.DS.written, D.DS.spent, e]
theorem view_lit0 (st : List Value) (c : Nat) (l : Int) (o : Bool) : (⟨st, [], c, l, o⟩ : D.DS).view = st := rfl
theorem laid1 (kf : Nat → Bool) (a : Nat) (M st : List Value) : D.laidTo kf [(a, M)] st 1 = if kf 0 then put st (64 * a) M else st := by
  rw [D.laidTo_succ kf _ st 0 (a, M) rfl, D.laidTo_zero]
theorem errF_lit (st : List Value) (ws : List (Nat × List Value)) (c : Nat) (l : Int) : (⟨st, ws, c, l, false⟩ : D.DS).errF = if l = 0 then 10 else 0 := by simp [D.DS.errF, D.DS.errS]
theorem flushed_zero (st : List Value) (ws : List (Nat × List Value)) (c : Nat) : (⟨st, ws, c, 0, false⟩ : D.DS).flushed = ⟨st, ws, c, 0, true⟩ := by simp [D.DS.flushed, D.DS.spent]
theorem flushed_lit {L : List (List Nat)} {a : Nat} {A : List Nat} (h : ∀ x ∈ L, x.length = 64) (ha : a < L.length) (hA : A.length = 64) (c : Nat) (l : Int) (hl : l ≠ 0) :
    (⟨BV L.flatten, [(a, BV A)], c, l, false⟩ : D.DS).flushed = ⟨BV (L.set a A).flatten, [], c + 1, if 0 < l then l - 1 else l, false⟩ := by
  have hv : (⟨BV L.flatten, [(a, BV A)], c, l, false⟩ : D.DS).view = BV (L.set a A).flatten := by
    show D.laidTo (fun _ => true) [(a, BV A)] (BV L.flatten) 1 = _
    rw [laid1, if_pos rfl, put_flat h ha hA]
  simp [D.DS.flushed, D.DS.spent, hl, hv]
theorem crashed_lit0 (st : List Value) (c : Nat) (l : Int) (o : Bool) (ks : List Bool) : (⟨st, [], c, l, o⟩ : D.DS).crashed ks = ⟨st, [], c, -1, false⟩ := rfl
theorem crashed_lit1 {L : List (List Nat)} {a : Nat} {A : List Nat} (h : ∀ x ∈ L, x.length = 64) (ha : a < L.length) (hA : A.length = 64) (c : Nat) (l : Int) (o : Bool) (ks : List Bool) :
    (⟨BV L.flatten, [(a, BV A)], c, l, o⟩ : D.DS).crashed ks = ⟨BV (if ks.getD 0 false then L.set a A else L).flatten, [], c, -1, false⟩ := by
  have : D.laidTo (fun i => ks.getD i false) [(a, BV A)] (BV L.flatten) 1 = BV (if ks.getD 0 false then L.set a A else L).flatten := by
    rw [laid1]
    split
    · exact put_flat h ha hA
    · rfl
  show D.DS.mk _ _ _ _ _ = _
  rw [← this]
  rfl
end Go.Proofs.Ytnlcmgdeohbmoaa
