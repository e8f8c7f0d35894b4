/-
  The reference's Write, done.
-/
import Derived.Test.YtnlcmgdeohbmoaaJ34
import Derived.Test.YtnlcmgdeohbmoaaJ18
namespace Go.Proofs.Ytnlcmgdeohbmoaa.D
open Go.RowKit Go.Shelf
set_option linter.unusedSimpArgs false
set_option linter.unusedVariables false
set_option maxRecDepth 100000

theorem flatR_one (ws : List (Nat × List Value)) : ∀ v ∈ flatR ws, v.oneCell' = true := by
  intro v hv
  simp only [flatR, List.mem_flatMap] at hv
  obtain ⟨p, _, hp⟩ := hv
  simp at hp
  rcases hp with rfl | rfl <;> rfl
theorem flatR_app (ws vs : List (Nat × List Value)) : flatR (ws ++ vs) = flatR ws ++ flatR vs := by simp [flatR]
theorem secs_succ (a : Nat) (B : List Value) (k : Nat) : secs a B (k + 1) = secs a B k ++ [(a + k, sec B k)] := by simp [secs, List.range_succ]

theorem ownsRow_zero {w : World} {base e size n : Nat} {v : Value} {xs : List Value} (h : w.ownsRow base e size v n xs) : w.ownsRow 0 e size v n xs := by
  refine ⟨h.1, ?_⟩
  rcases h.2 with h2 | ⟨g, cap, cur, e1, _, r⟩
  · exact .inl h2
  · exact .inr ⟨g, cap, cur, e1, Nat.zero_le _, r⟩
theorem ownsRow_block {w : World} {base e size n : Nat} {v : Value} {xs : List Value} (h : w.ownsRow base e size v n xs) {k : Nat} (hk : v.ownBlock = some k) : base ≤ k ∧ ∃ L, Blk w k L e := by
  rcases h.2 with ⟨rfl, _⟩ | ⟨g, cap, cur, rfl, hb, hg, _⟩
  · simp [Value.ownBlock] at hk
  · simp [Value.ownBlock] at hk
    subst hk
    exact ⟨hb, cur.toList, by unfold Blk; simpa using hg⟩
theorem ownsRow_not {w : World} {base e size n : Nat} {v : Value} {xs : List Value} (h : w.ownsRow base e size v n xs) {b : Nat} {L : List Value} {t : TypeId} (hb : Blk w b L t) (hne : e ≠ t) : ¬ v.ownBlock = some b := by
  intro hk
  obtain ⟨_, L2, h2⟩ := ownsRow_block h hk
  exact h2.ne hb hne rfl

theorem append_ref (W : World) (B0 : Nat) (v : Value) (k : Nat) (xs : List Value) (how : W.ownsRow B0 102 2 v k xs) (y : Value) (m : Nat) (news : List Value)
    (hy : (y = .slice none 0 0 ∧ m = 0 ∧ news = []) ∨ ∃ g o c, y = .slice (some ⟨g, o, none⟩) m c ∧ Cells W g o news) (hl : news.length = m * 2) (h1 : ∀ u ∈ news, u.oneCell' = true) (hlen : k + m < 1000000000) (hB : B0 ≤ W.heap.size) (ty : TypeId) :
    ∃ v' W2, (Builtin.append_ #[31, 31] ty #[v, y]).run Try.prog W = .ok v' W2 ∧ W2.ownsRow B0 102 2 v' (k + m) (xs ++ news) ∧ Kept (fun j => v.ownBlock = some j) W W2 := by
  obtain ⟨i74, hi74, hz74, hs74, hb74⟩ := info_parts Try.info102
  rcases hy with ⟨rfl, rfl, rfl⟩ | ⟨g, o, c, rfl, hc⟩
  · refine ⟨v, W, run_append_owned_none (P := Try.prog) W B0 31 ty 102 i74 2 Try.underlying31 hi74 v k xs how, ?_, Kept.refl _ _⟩
    simpa using how
  · obtain ⟨v', W2, hrun, how', hgr, _⟩ := run_append_own (P := Try.prog) W B0 31 ty 102 i74 _ 2 24 Try.underlying31 hi74 hz74 hs74 hb74 (by simp [Value.cells]) (by decide) v k xs how
      ⟨g, o, none⟩ m c news hl (fun j u hj => by rw [addr_add]; exact hc j u hj) h1 (by unfold maxLen; omega) (by omega) hB
    exact ⟨v', W2, hrun, how', Kept.of_grown hgr⟩

section
variable {ρ : Operand → Value} {w : World} {dst : Option Tmp} {ty : TypeId} {pos : String} {aft : Array Edge} {gd : Option (Nat × Bool)}
theorem r_append38 {x y : Operand} {u v v' : Value} {w' : World} (hx : ρ x = u) (hy : ρ y = v) (h : (Builtin.append_ #[31, 31] ty #[u, v]).run Try.prog w = .ok v' w') :
    (execOp ρ ⟨dst, .call { callee := .builtin .append, args := #[x, y], argTypes := #[31, 31] }, ty, pos, aft, gd⟩).run Try.prog w = .ok (.value v') w' := by
  simp [execOp, resolve, invoke, builtin, hx, hy, h]
theorem Try.fields74 : ∃ fs, Try.prog.underlying 102 = some (.struct fs) ∧ fs.toList.mapM (fun f => (Try.prog.info? f.type).map fun i => (f.offset, i.size)) = some [(0, 1), (1, 1)] := ⟨_, Try.underlying102, by kernel_rfl⟩
theorem r_build74 {x y : Operand} {q : Int} {T : ByteArray} (hx : ρ x = .int .i64 q) (hy : ρ y = .string T) :
    (execOp ρ ⟨dst, .build 102 #[(0, x), (1, y)], ty, pos, aft, gd⟩).run Try.prog w = .ok (.value (.agg [Value.int .i64 q, .string T].toArray)) w := by
  obtain ⟨i74, hi74, hz74, hs74, hb74⟩ := info_parts Try.info102
  obtain ⟨fs, hu, hp⟩ := Try.fields74
  have h := run_build_two (P := Try.prog) (ρ := ρ) (w := w) (dst := dst) (ty := ty) (pos := pos) (aft := aft) (gd := gd) (M1 := [.int .i64 q]) (M2 := [.string T]) hi74 hz74 hu hp hx hy rfl rfl rfl rfl (by simp [Value.cells]) (by simp [Value.cells])
  simpa [Value.cells, put] using h
theorem r_one38 {x : Operand} {q : Int} {T : ByteArray} (hx : ρ x = .agg [Value.int .i64 q, .string T].toArray) :
    (execOp ρ ⟨dst, .buildSlice 31 1 #[(0, x)], ty, pos, aft, gd⟩).run Try.prog w = .ok (.value (.slice (some ⟨w.heap.size, 0, none⟩) 1 1)) (w.alloc (.cells [Value.int .i64 q, .string T].toArray 102)) := by
  obtain ⟨i74, hi74, hz74, hs74, hb74⟩ := info_parts Try.info102
  exact run_buildSlice_one (M := [Value.int .i64 q, .string T]) Try.underlying31 hi74 hz74 hs74 (by simp) (by simp) (.inl hx)
end

set_option maxRecDepth 100000 in
set_option maxHeartbeats 4000000 in
theorem refWrite_ok (w : World) (s : DS) (n : Nat) (hl : s.st.length = 64 * n) (hn : n ≤ 4096) (rv : Value) (how : w.ownsRow 0 102 2 rv s.ws.length (flatR s.ws)) (a m bc : Nat) (bo : Option Addr) (B : List Value) (hB : B.length = 64 * m) (hBb : ∀ x ∈ B, isByte x) (hbc : 64 * m ≤ bc)
    (hsrc : 0 < m → ∃ sb so, bo = some ⟨sb, so, none⟩ ∧ Cells w sb so B)
    (ham : a + m ≤ n) (ho : s.off = false) (hz : s.left ≠ 0) (l1 : -1 ≤ s.left) (l2 : s.left ≤ 9223372036854775807) (hc : s.calls < 4611686018427387904) (hlen : s.ws.length + m < 1000000000) :
    Calls Try.prog 42 #[refA s rv, .int .i64 a, .slice bo (64 * m) bc] w fun e w' => ∃ rv', e = .returned (.tuple #[refA (s.written a B m) rv', .int .i64 0]) ∧ w'.ownsRow w.heap.size 102 2 rv' (s.written a B m).ws.length (flatR (s.written a B m).ws) ∧ Kept (fun _ => False) w w' := by
  obtain ⟨ro, rl, rc, rfl⟩ : ∃ ro rl rc, rv = .slice ro rl rc := by
    rcases how.2 with ⟨rfl, _⟩ | ⟨g, cap, cur, rfl, _⟩
    · exact ⟨_, _, _, rfl⟩
    · exact ⟨_, _, _, rfl⟩
  have HT := hide (fun W => there_any W s n hl hn ro rl rc a m (by omega))
  have HN := hide (hasB_nat n a m ham)
  have HCa := hide (fun W => call_any W s ro rl rc l1 l2 hc)
  have HR1 := hide (refL_one s ro rl rc)
  have HR2 := hide (refL_one s.spent ro rl rc)
  obtain ⟨i40, hi40, hz40, hs40, hb40⟩ := info_parts Try.info33
  have Hi40 := hide hi40
  have Hz40 := hide hz40
  clear hi40 hz40 hs40 hb40
  have HG : Hid (s.goes = true) := hide (by simp [DS.goes, hz])
  rw [refL_A]
  rw [refL_A] at HT
  rw [refL_A, refL_A] at HCa
  obtain ⟨L, hL⟩ : ∃ L, L = refL s (.slice ro rl rc) := ⟨_, rfl⟩
  obtain ⟨L2, hL2⟩ : ∃ L, L = refL s.spent (.slice ro rl rc) := ⟨_, rfl⟩
  rw [← hL] at HR1 HT HCa ⊢
  rw [← hL2] at HR2 HCa
  have HL5 : Hid (L.length = 5) := hide (by rw [hL]; rfl)
  have HLd : Hid ((L.drop 0).take 5 = L) := hide (by rw [hL]; rfl)
  have HL4 : Hid (L[4]? = some (.bool false)) := hide (by rw [hL]; simp [refL, ho])
  have HM5 : Hid (L2.length = 5) := hide (by rw [hL2]; rfl)
  have HM1 : Hid (L2[1]? = some (.slice ro rl rc)) := hide (by rw [hL2]; rfl)
  have HF : Hid (∀ rv', L2.set 1 rv' = refL (s.written a B m) rv') := hide (by intro rv'; rw [hL2]; rfl)
  have HSrc := hide hsrc
  have HBB := hide hBb
  have HBl := hide hB
  have HOw := hide how
  clear hL hL2 ho hz l1 l2 hl hsrc hBb hB how
  have hq : ((64 * m : Nat) : Int) / 64 = (m : Int) := by omega
  go_enter Try.func42, Try.ntmps42
  go_wp2_with (first
    | ((with_reducible refine aw_box (dst := some 3) rfl ?_); intro w1 hw1 hk1 hz1; have Hz1 := hide hz1; clear hz1)
    | ((with_reducible refine aw_alloc (dst := some 6) Hi40.out Hz40.out ?_); intro w2 hw2 hk2 hz2; have Hz2 := hide hz2; clear hz2; have b1 : Blk w2 w.heap.size L 33 := hk2.blk hw1 (fun h => h); have c4 := (b1.cell 4).trans HL4.out)
    | ((with_reducible refine aw_load (dst := some 19) Try.agg33 rfl b1 (by rw [HL5.out]; decide) HLd.out ?_))
    | (go_at_call 63; refine (HT.out _).mono ?_; rintro e w3 ⟨rfl, hk3⟩; rw [HN.out]; have b3 := hk3.blk b1 (fun h => h); have r3 := hk3.blk hw2 (fun h => h))
    | ((with_reducible refine aw_load (dst := some 28) Try.agg33 rfl b3 (by rw [HL5.out]; decide) HLd.out ?_))
    | (go_at_call 64; refine (HCa.out _).mono ?_; rintro e w4 ⟨rfl, hk4⟩; rw [HG.out]; have b4 := hk4.blk b3 (fun h => h); have r4 := hk4.blk r3 (fun h => h))
    | ((with_reducible refine aw_store (x := .tmp 3) Try.agg33 rfl rfl HM5.out HR2.out b4 (by rw [HL5.out]; decide) ?_); intro w5 hw5 hk5 hz5; rw [put_whole _ _ (by rw [HL5.out, HM5.out])] at hw5; have Hz5 := hide hz5; clear hz5; have r5 := hk5.blk r4 (fun h => by have := hw1.lt; omega); have d1 := (((Kept.alloc (fun _ => False) w5 (.cells #[] 102)).blk hw5 (fun h => h)).cell 1).trans HM1.out)
    | (with_reducible refine stop_append 31 ?_))
  refine hide ?_
  have hk05 : Kept (fun _ => False) w w5 := (((hk1.trans hk2 (fun _ _ h => h)).trans hk3 (fun _ _ h => h)).trans hk4 (fun _ _ h => h)).trans hk5 (fun i hi h => by omega)
  have hlt1 := hw1.lt
  have hne : w.heap.size ≠ w1.heap.size := by omega
  have hge1 : w.heap.size ≤ w1.heap.size := by omega
  obtain ⟨Z, hZ⟩ : ∃ Z, Z = (Value.agg #[.string ⟨#[]⟩, .slice none 0 0, .int .i64 0, .int .i64 0, .bool false]).cells.toList := ⟨_, rfl⟩
  rw [← hZ] at r5
  have HZ5 : Hid (Z.length = 5) := hide (by rw [hZ]; simp [Value.cells])
  clear hZ c4 HCa HT HR1 HR2 HL5 HLd HL4 b1 b3 b4 r3 r4 hk1 hk2 hk3 hk4 hk5 hw1 hw2 Hz1 Hz2 Hz5 d1
  have hk6 := Kept.alloc (fun _ => False) w5 (.cells #[] 102)
  have hk06 : Kept (fun _ => False) w (w5.alloc (.cells #[] 102)) := hk05.trans hk6 (fun _ _ h => h)
  have hb6 := hk6.blk hw5 (fun h => h)
  have hr6 := hk6.blk r5 (fun h => h)
  have hown6 : (w5.alloc (.cells #[] 102)).ownsRow w.heap.size 102 2 (.slice (some ⟨w5.heap.size, 0, none⟩) 0 0) 0 [] := World.ownsRow_lit w5 #[] 0 hk05.size (by unfold maxLen; omega) (by simp)
  have hold := ownsRow_kept HOw.out hk06 (fun _ _ h => h)
  obtain ⟨v7, w7, hrun, hown7, hk7⟩ := append_ref (w5.alloc (.cells #[] 102)) w.heap.size _ 0 [] hown6 (.slice ro rl rc) s.ws.length (flatR s.ws) (by
    rcases hold.2 with ⟨h0, h1⟩ | ⟨g, cap, cur, h0, _, hg, _, _, _, htk⟩
    · exact .inl ⟨h0, h1, by rw [List.eq_nil_of_length_eq_zero h1]; rfl⟩
    · refine .inr ⟨g, 0, cap, h0, ?_⟩
      have hgb : Blk (w5.alloc (.cells #[] 102)) g cur.toList 102 := by unfold Blk; simpa using hg
      have := hgb.cells 0 (s.ws.length * 2)
      rw [List.drop_zero, htk] at this
      exact this) (flatR_length _) (flatR_one _) (by omega) (by have := hk06.size; exact this) 31
  rw [Nat.zero_add, List.nil_append] at hown7
  have hb7 := hk7.blk hb6 (ownsRow_not hown6 hb6 (by decide))
  have hr7 := hk7.blk hr6 (ownsRow_not hown6 hr6 (by decide))
  have hk07 : Kept (fun _ => False) w w7 := hk06.trans hk7 (fun i hi h => by have := (ownsRow_block hown6 h).1; omega)
  refine wpList_run rfl (r_append38 rfl rfl hrun) ?_
  clear hk6 hk06 hb6 hr6 hown6 hold hrun hk7 hk05 hw5 r5
  go_wp2_with fail
  go_loopw [9, 10] (fun sv i wr => ∃ k : Nat, k ≤ m ∧ i = .int .i64 k ∧ wr.ownsRow w.heap.size 102 2 sv (s.ws.length + k) (flatR (s.ws ++ secs a B k)) ∧ Blk wr w.heap.size L2 33 ∧ Blk wr w1.heap.size Z 33 ∧ Kept (fun _ => False) w wr) (fun _ i _ => m - (intOf i).toNat)
  case atStart => exact ⟨0, Nat.zero_le _, rfl, by simpa [secs] using hown7, hb7, hr7, hk07⟩
  case round =>
    obtain ⟨k, hk, rfl, hown, hbx, hrx, hkept⟩ := hrel
    clear hown7 hb7 hr7 hk07
    have hbl := hbx.lt
    by_cases hlt : k < m
    · obtain ⟨sb, so, rfl, hcs⟩ := HSrc.out (by omega)
      have HS2 := hide hcs
      have hcp := hkept.cells (hcs.part (64 * k) 64) (fun h => h)
      have HCp := hide hcp
      have HSl : Hid (((B.drop (64 * k)).take 64).length = 64) := hide (by simp [HBl.out]; omega)
      have HSb : Hid (∀ v ∈ (B.drop (64 * k)).take 64, isByte v) := hide (fun v hv => HBB.out v (List.mem_of_mem_drop (List.mem_of_mem_take hv)))
      clear hcs hcp
      go_wp2_with (with_reducible refine stop_slice 41 ?_)
      refine hide ?_
      refine wpList_run rfl (r_slice2 (l := 64 * k) (h := 64 * k + 64) (k1 := .i64) (k2 := .i64) rfl (by simp [Act.eval]) (by simp [Act.eval]) (by omega) (by omega) (by omega)) ?_
      refine wpList_run rfl (r_str (b := sb) (so := so + 64 * k) (len := 64 * k + 64 - 64 * k) (cap := bc - 64 * k) (M := (B.drop (64 * k)).take 64) rfl HCp.out (by rw [HSl.out]; omega) HSb.out) ?_
      refine wpList_run rfl (r_build74 (q := ((a + k : Nat) : Int)) (T := strV ((B.drop (64 * k)).take 64)) rfl rfl) ?_
      refine wpList_run rfl (r_one38 (q := ((a + k : Nat) : Int)) (T := strV ((B.drop (64 * k)).take 64)) rfl) ?_
      have hk8 := Kept.alloc (fun _ => False) wr (.cells [Value.int .i64 ((a + k : Nat) : Int), .string (strV ((B.drop (64 * k)).take 64))].toArray 102)
      have hnew := Blk.new wr [Value.int .i64 ((a + k : Nat) : Int), .string (strV ((B.drop (64 * k)).take 64))] 102
      have hown8 := ownsRow_kept hown hk8 (fun _ _ h => h)
      have hb8 := hk8.blk hbx (fun h => h)
      have hr8 := hk8.blk hrx (fun h => h)
      have hkept8 : Kept (fun _ => False) w _ := hkept.trans hk8 (fun _ _ h => h)
      obtain ⟨v9, w9, hrun, hown9, hk9⟩ := append_ref _ w.heap.size _ _ _ hown8 (.slice (some ⟨wr.heap.size, 0, none⟩) 1 1) 1 [Value.int .i64 ((a + k : Nat) : Int), .string (strV ((B.drop (64 * k)).take 64))] (.inr ⟨wr.heap.size, 0, 1, rfl, by
        have := hnew.cells 0 2
        simpa using this⟩) rfl (by intro u hu; simp at hu; rcases hu with rfl | rfl <;> rfl) (by omega) (by have := hkept8.size; exact this) 31
      have hb9 := hk9.blk hb8 (ownsRow_not hown8 hb8 (by decide))
      have hr9 := hk9.blk hr8 (ownsRow_not hown8 hr8 (by decide))
      have hk09 : Kept (fun _ => False) w w9 := hkept8.trans hk9 (fun i hi h => by have := (ownsRow_block hown8 h).1; omega)
      refine wpList_run rfl (r_append38 rfl rfl hrun) ?_
      have HO9 : Hid (w9.ownsRow w.heap.size 102 2 v9 (s.ws.length + (k + 1)) (flatR (s.ws ++ secs a B (k + 1)))) := hide (by
        rw [secs_succ, ← List.append_assoc, flatR_app (s.ws ++ secs a B k), ← Nat.add_assoc]
        exact hown9)
      clear hk8 hnew hown8 hb8 hr8 hkept8 hrun hown9 hk9
      go_wp2
      go_roundw
      case rel => exact ⟨k + 1, by omega, by go_num, HO9.out, hb9, hr9, hk09⟩
      case measure => simp [intOf]; omega
    · obtain rfl : k = m := by omega
      have d1 := (hbx.cell 1).trans HM1.out
      have f1 := hbx.frozen 1
      obtain ⟨sao, sl, scp, rfl⟩ : ∃ ao l c, u9 = .slice ao l c := by
        rcases hown.2 with ⟨rfl, _⟩ | ⟨g, cap, cur, rfl, _⟩
        · exact ⟨_, _, _, rfl⟩
        · exact ⟨_, _, _, rfl⟩
      have X1 := hbx.setCell 1 (.slice sao sl scp)
      rw [HF.out] at X1
      have HX5 : Hid ((refL (s.written a B k) (.slice sao sl scp)).length = 5) := hide rfl
      have HXd : Hid (((refL (s.written a B k) (.slice sao sl scp)).drop 0).take 5 = refL (s.written a B k) (.slice sao sl scp)) := hide rfl
      have HX1 := hide (refL_one (s.written a B k) sao sl scp)
      have hkS := Kept.setCell (S := fun k => k = w.heap.size) wr ⟨w.heap.size, 1, none⟩ (.slice sao sl scp) rfl
      have hR1 := hkS.blk hrx (fun h => hne h.symm)
      have hO1 := ownsRow_kept hown hkS (fun j hj h => by subst h; exact ownsRow_not hown hbx (by decide) hj)
      have hK1 : Kept (fun _ => False) w (wr.setCell ⟨w.heap.size, 1, none⟩ (.slice sao sl scp)) := hkept.setN (Nat.le_refl _)
      clear hkS
      obtain ⟨LX, hLX⟩ : ∃ LX, LX = refL (s.written a B k) (.slice sao sl scp) := ⟨_, rfl⟩
      rw [← hLX] at X1 HX5 HXd HX1
      have HLX := hide hLX
      clear hLX
      go_wp2_with (first
        | ((with_reducible refine aw_load (dst := some 63) Try.agg33 rfl X1 (by rw [HX5.out]; decide) HXd.out ?_))
        | ((with_reducible refine aw_store (x := .tmp 6) (M := LX) Try.agg33 rfl rfl HX5.out HX1.out hR1 (by rw [HZ5.out]; decide) ?_); intro w5 hw5 hk5 hz5; rw [put_whole _ _ (by rw [HX5.out, HZ5.out])] at hw5; have Hz5 := hide hz5; clear hz5))
      have hkk : Kept (fun _ => False) w w5 := hK1.trans hk5 (fun i hi h => by omega)
      have hO2 := ownsRow_kept hO1 hk5 (fun j hj h => by subst h; exact ownsRow_not hO1 hR1 (by decide) hj)
      refine bodyPost_ret (results_cell_tmp (t := 6) (u := 7) (ty := 33) rfl Try.agg33 rfl hw5 HX5.out rfl) rfl ⟨.slice sao sl scp, by rw [HLX.out]; rfl, ?_, hkk⟩
      have hl' : (s.written a B k).ws.length = s.ws.length + k := by simp [DS.written, secs]
      rw [hl']
      exact hO2

end Go.Proofs.Ytnlcmgdeohbmoaa.D

/-
  The document's own answers: Get, Zero, With; the law's same.
-/
namespace Go.Proofs.Ytnlcmgdeohbmoaa
open Go.RowKit Go.Shelf
set_option linter.unusedSimpArgs false
set_option linter.unusedVariables false
set_option maxRecDepth 100000

section
variable {ρ : Operand → Value} {w : World} {dst : Option Tmp} {ty : TypeId} {pos : String} {aft : Array Edge} {gd : Option (Nat × Bool)} {x y z : Operand}
theorem r_lo9 {B : List Nat} (l : Nat) (hl : l ≤ B.length) (hx : ρ x = .string (strN B)) (hy : ρ y = .int .i64 l) :
    (execOp ρ ⟨dst, .slice 9 x (some y) none none, ty, pos, aft, gd⟩).run Try.prog w = .ok (.value (.string (strN (B.drop l)))) w := by
  have hsz : (strN B).size = B.length := strN_size B
  have h2 : (0 : Int) ≤ (l : Int) ∧ (l : Int) ≤ (B.length : Int) := by omega
  have e := strN_extract B l B.length
  rw [List.take_length] at e
  simp [execOp, Instr.sliceAt, run_underlying Try.underlying9, Instr.slice, hx, hy, Instr.sliceBounds, Instr.sliceBound, asIntOf, hsz, h2, hl, e]
theorem r_hi9 {B : List Nat} (h : Nat) (hl : h ≤ B.length) (hx : ρ x = .string (strN B)) (hy : ρ y = .int .i64 h) :
    (execOp ρ ⟨dst, .slice 9 x none (some y) none, ty, pos, aft, gd⟩).run Try.prog w = .ok (.value (.string (strN (B.take h)))) w := by
  have hsz : (strN B).size = B.length := strN_size B
  have h2 : (0 : Int) ≤ (h : Int) ∧ (h : Int) ≤ (B.length : Int) := by omega
  have e := strN_extract B 0 h
  rw [List.drop_zero] at e
  simp [execOp, Instr.sliceAt, run_underlying Try.underlying9, Instr.slice, hx, hy, Instr.sliceBounds, Instr.sliceBound, asIntOf, hsz, h2, hl, e]
theorem r_mid9 {B : List Nat} (l h : Nat) (hl : l ≤ h) (hh : h ≤ B.length) (hx : ρ x = .string (strN B)) (hy : ρ y = .int .i64 l) (hz : ρ z = .int .i64 h) :
    (execOp ρ ⟨dst, .slice 9 x (some y) (some z) none, ty, pos, aft, gd⟩).run Try.prog w = .ok (.value (.string (strN ((B.take h).drop l)))) w := by
  have hsz : (strN B).size = B.length := strN_size B
  have h2 : (0 : Int) ≤ (h : Int) ∧ (h : Int) ≤ (B.length : Int) := by omega
  have h3 : (0 : Int) ≤ (l : Int) ∧ (l : Int) ≤ (h : Int) := by omega
  have e := strN_extract B l h
  simp [execOp, Instr.sliceAt, run_underlying Try.underlying9, Instr.slice, hx, hy, hz, Instr.sliceBounds, Instr.sliceBound, asIntOf, hsz, h2, h3, hl, hh, e]
end
/-- The block of a text, or none. -/
def rgetB (d : List Nat) (n : Nat) (k : Int) : List Nat := if 0 ≤ k ∧ k < n then getB d k.toNat else []
theorem rget_at (w : World) (d : List Nat) (n : Nat) (hd : d.length = 64 * n) (hn : n ≤ 64) (k : Int) (r : Bool) (hr : decide (0 ≤ k ∧ k < n) = r) : Calls Try.prog 62 #[.string (strN d), .int .i64 k] w fun e w' => e = .returned (.tuple #[.string (strN (rgetB d n k)), .bool r]) ∧ w = w' := by
  have hsz : (strN d).size = d.length := strN_size d
  have HD := hide hd
  by_cases h0 : k < 0
  · have hb : rgetB d n k = [] := if_neg (by omega)
    have hr2 : r = false := by rw [← hr]; simp; omega
    rw [hb, hr2]
    clear hr hr2 hb hd
    go_enter Try.func62, Try.ntmps62
    go_wp2
    go_ret2
    exact ⟨rfl, rfl⟩
  · have h64 : (d.length : Int) / 64 = n := by omega
    have h64t : (d.length : Int).tdiv 64 = n := by rw [Int.tdiv_eq_ediv_of_nonneg (by omega)]; exact h64
    have hwn : IntKind.i64.wrap (n : Int) = n := by rw [IntKind.wrap_i64]; omega
    obtain ⟨len, hlen⟩ : ∃ len, d.length = len := ⟨_, rfl⟩
    rw [hlen] at hsz h64 h64t
    by_cases h1 : (n : Int) ≤ k
    · have hb : rgetB d n k = [] := if_neg (by omega)
      have hr2 : r = false := by rw [← hr]; simp; omega
      rw [hb, hr2]
      clear hr hr2 hb hd hlen
      go_enter Try.func62, Try.ntmps62
      go_wp2
      go_ret2
      exact ⟨rfl, rfl⟩
    · have hb : rgetB d n k = getB d k.toNat := if_pos (by omega)
      have hr2 : r = true := by rw [← hr]; simp; omega
      rw [hb, hr2]
      obtain ⟨m, rfl⟩ : ∃ m : Nat, k = m := ⟨k.toNat, by omega⟩
      have hmn : m < n := by omega
      have Hmn := hide hmn
      have hw1 : IntKind.i64.wrap (64 * (m : Int)) = ((64 * m : Nat) : Int) := by rw [IntKind.wrap_i64]; omega
      have hw2 : IntKind.i64.wrap (((64 * m : Nat) : Int) + 64) = ((64 * m + 64 : Nat) : Int) := by rw [IntKind.wrap_i64]; omega
      have Hlen := hide hlen
      clear hr hr2 hb hd hlen
      go_enter Try.func62, Try.ntmps62
      go_wp2_with (with_reducible refine stop_slice 9 ?_)
      refine hide ?_
      refine wpList_run rfl (r_mid9 (64 * m) (64 * m + 64) (by omega) (by have := HD.out; have := Hmn.out; omega) rfl rfl rfl) ?_
      try simp only [put_lit, put_none, List.set_cons_succ, List.set_cons_zero]
      have Hg : Hid ((d.take (64 * m + 64)).drop (64 * m) = getB d m) := hide (by rw [getB, List.drop_take, show 64 * m + 64 - 64 * m = 64 by omega])
      rw [Hg.out]
      clear h64 h64t hwn hw1 hw2 hsz
      go_wp2
      go_ret2
      exact ⟨by rw [Int.toNat_natCast]; rfl, rfl⟩
theorem zero_at (w : World) (n : Nat) (hn : 1 ≤ n ∧ n ≤ 64) : Calls Try.prog 40 #[.int .i64 n] w fun e w' => e = .returned (.string (strN (List.replicate (64 * n) 0))) ∧ Kept (fun _ => False) w w' := by
  obtain ⟨i5, hi5, hz5, hs5, hb5⟩ := info_parts Try.info5
  have Hi5 := hide hi5
  have Hz5 := hide hz5
  have Hs5 := hide hs5
  have Hb5 := hide hb5
  have Hn := hide hn
  have hw1 : IntKind.i64.wrap (64 * (n : Int)) = ((64 * n : Nat) : Int) := by rw [IntKind.wrap_i64]; omega
  clear hi5 hz5 hs5 hb5
  go_enter Try.func40, Try.ntmps40
  go_wp2_with (first
    | ((with_reducible refine aw_make (n := 64 * n) 1 (by decide) Try.underlying41 Hi5.out Hz5.out rfl Hs5.out rfl rfl (by rw [Hb5.out]; have := Hn.out; omega) (by have := Hn.out; unfold maxLen; omega) ?_); intro w2 hw2 hk2 hz2; have HW2 := hide hw2; have HK2 := hide hk2; clear hw2 hk2 hz2)
    | (with_reducible refine stop_convert 41 9 ?_)
    | fail)
  refine hide ?_
  have hsrc : Src w2 (.slice (some ⟨w.heap.size, 0, none⟩) (64 * n) (64 * n)) (List.replicate (64 * n) 0) := by
    have h2 := HW2.out
    rw [Nat.mul_one, ← BV_rep] at h2
    have := h2.src (B := List.replicate (64 * n) 0) (cap := 64 * n) (by rw [List.take_of_length_le (by rw [BV_length]; exact Nat.le_refl _)]) (fun x hx => by rw [List.eq_of_mem_replicate hx]; decide) (by simp)
    simpa using this
  refine wpList_run rfl (r_strS (v := .slice (some ⟨w.heap.size, 0, none⟩) (64 * n) (64 * n)) (B := List.replicate (64 * n) 0) rfl hsrc) ?_
  try simp only [put_lit, put_none, List.set_cons_succ, List.set_cons_zero]
  clear hw1
  go_wp2
  go_ret
  exact ⟨rfl, HK2.out⟩
end Go.Proofs.Ytnlcmgdeohbmoaa
