/-
  The document's books in memory: at, Writes, Read.
-/
import Derived.Test.YtclfklcboigifaaTxLaw
import Derived.Test.YtclfklcboigifaaRRefMergeW
namespace Go.Proofs.Ytclfklcboigifaa
open Go.RowKit Go.Shelf
set_option linter.unusedSimpArgs false
set_option linter.unusedVariables false
set_option maxRecDepth 100000

theorem Try.info57 : (Try.prog.info? 57).map (fun i => (i.zero, i.size, i.bytes)) = some (some (.agg #[.int .i64 0, .slice none 0 0]), 2, 32) := by kernel_rfl
theorem Try.agg57 : aggSize Try.prog 57 2 := by
  obtain ⟨i0, hi, _, hs, _⟩ := info_parts Try.info57
  exact ⟨⟨i0, hi, hs⟩, _, Try.underlying57, .inr ⟨_, rfl⟩⟩
theorem Try.info28 : (Try.prog.info? 28).map (fun i => (i.zero, i.size, i.bytes)) = some (some (.slice none 0 0), 1, 24) := by kernel_rfl
theorem Try.info30 : (Try.prog.info? 30).map (fun i => (i.zero, i.size, i.bytes)) = some (some (.agg #[.int .i64 0, .int .i64 0, .slice none 0 0]), 3, 40) := by kernel_rfl
theorem Try.agg30 : aggSize Try.prog 30 3 := by
  obtain ⟨i0, hi, _, hs, _⟩ := info_parts Try.info30
  exact ⟨⟨i0, hi, hs⟩, _, Try.underlying30, .inr ⟨_, rfl⟩⟩

theorem SrcEB.sl {w : World} {v : Value} {l : List EntB} (h : SrcEB w v l) : ∃ ao cap, v = .slice ao l.length cap := by
  obtain ⟨ao, cap, e, _⟩ := h
  exact ⟨ao, cap, e⟩
theorem SrcEB.kept {w w' : World} {v : Value} {l : List EntB} (h : SrcEB w v l) (hk : Kept (fun _ => False) w w') : SrcEB w' v l := by
  obtain ⟨ao, cap, h1, h2, h3⟩ := h
  refine ⟨ao, cap, h1, h2, fun h0 => ?_⟩
  obtain ⟨g, off, e, hc⟩ := h3 h0
  exact ⟨g, off, e, hk.cells hc (fun h => h)⟩
theorem SrcEB.get {w : World} {ao : Option Addr} {n c : Nat} {l : List EntB} (h : SrcEB w (.slice ao n c) l) {k : Nat} (hk : k < l.length) : ∃ g off, ao = some ⟨g, off, none⟩ ∧ Cells w g (off + k * 2) [.int .i64 l[k].1, .slice l[k].2.a l[k].2.n l[k].2.c] := by
  obtain ⟨ao', cap, e, h2, h3⟩ := h
  cases e
  obtain ⟨g, off, rfl, hc⟩ := h3 (by omega)
  refine ⟨g, off, rfl, ?_⟩
  intro j u hj
  match j with
  | 0 => simp at hj; subst hj; have := hc _ _ (encE_key (ek := ekB) (ev := evB) l k hk); simpa using this
  | 1 => simp at hj; subst hj; have := hc _ _ (encE_val (ek := ekB) (ev := evB) l k hk); simpa [Nat.add_assoc] using this
  | j + 2 => simp at hj
/-- A row of one's own of pairs, as it is read. -/
theorem rowEB {w : World} {v : Value} {l : List EntB} {t : TypeId} (h : w.ownsRow 0 t 2 v l.length (encE ekB evB l)) : SrcEB w v l := by
  rcases ownsRow_blk h with ⟨rfl, h1, h2⟩ | ⟨g, cap, C, rfl, hb, hnc, hcm, hC⟩
  · have : l = [] := List.eq_nil_of_length_eq_zero h1
    subst this
    exact ⟨none, 0, rfl, by simp, fun h => absurd h (by simp)⟩
  · refine ⟨_, cap, rfl, hnc, fun _ => ⟨g, 0, rfl, ?_⟩⟩
    have h := hb.cells 0 (l.length * 2)
    rw [List.drop_zero, List.take_append_of_le_length (by rw [encE_length]; omega), List.take_of_length_le (by rw [encE_length]; omega)] at h
    exact h
/-- v is a slice of transactions. -/
def TxAt (w : World) (v : Value) (E : List EntX) : Prop := SrcEB w v (entsX E) ∧ ∀ x ∈ E, WsAt w x.2.1.v x.2.2
/-- .. and stays so, whatever changes in X. -/
def RfT (X : NSet) (w : World) (v : Value) (E : List EntX) : Prop := ∀ w', Kept X w w' → TxAt w' v E
theorem RfT.now {X : NSet} {w : World} {v : Value} {E : List EntX} (h : RfT X w v E) : TxAt w v E := h w (Kept.refl _ _)
theorem RfT.same {X : NSet} {w w1 : World} {v : Value} {E : List EntX} (h : RfT X w v E) (hk : Kept (fun _ => False) w w1) : RfT X w1 v E := fun w' hk' => h w' ((hk.mono (T := X) (fun _ _ h => h.elim)).trans hk' (fun _ _ h => h))
theorem RfT.step {X X' : NSet} {w w1 : World} {v : Value} {E : List EntX} (h : RfT X w v E) (hk : Kept X w w1) (hx : ∀ k, X' k → X k ∨ w.heap.size ≤ k) : RfT X' w1 v E := fun w' hk' =>
  h w' (hk.trans hk' (fun k hlt hk => (hx k hk).elim id (fun h => by omega)))
theorem RfT.nil (X : NSet) (w : World) : RfT X w (.slice none 0 0) [] := fun w' _ => ⟨⟨none, 0, rfl, by simp [entsX, mapK], fun h => absurd h (by simp [entsX, mapK])⟩, by simp⟩
theorem RfT.of_row {X : NSet} {w : World} {v : Value} {E : List EntX} {N : Nat} {t : TypeId} (h : w.ownsRow 0 t 2 v (entsX E).length (encE ekB evB (entsX E))) (hn : ∀ k, v.ownBlock = some k → N ≤ k) (hX : ∀ k, X k → k < N) (hws : ∀ w', Kept X w w' → ∀ x ∈ E, WsAt w' x.2.1.v x.2.2) : RfT X w v E := fun w' hk =>
  ⟨rowEB (ownsRow_kept h hk (fun k hk hx => by have := hn k hk; have := hX k hx; omega)), hws w' hk⟩
theorem run_load_cellsT {P : Program} {ρ : Operand → Value} {w : World} {dst : Option Tmp} {t ty : TypeId} {x : Operand} {pos : String} {aft : Array Edge} {gd : Option (Nat × Bool)} {b off n : Nat} {M : List Value}
    (ht : aggSize P t n) (hx : ρ x = .pointer (some ⟨b, off, none⟩)) (hb : Cells w b off M) (hl : M.length = n) :
    (execOp ρ ⟨dst, .load t x, ty, pos, aft, gd⟩).run P w = .ok (.value (.agg M.toArray)) w := by
  have hc := run_loadCells_list (P := P) w ⟨b, off, none⟩ M (fun j v hj => by rw [addr_add]; exact hb j v hj)
  rw [hl] at hc
  simp [execOp, Instr.loadAt, hx, Instr.sureAddr, loadVar, run_isAgg ht, run_sizeOf ht, hc]
theorem aw_loadT {P : Program} {ops : Array Oper} {Q : Exit → Act → World → Prop} {a : Act} {w : World} {rest : List Oper} {dst : Option Tmp} {ty : TypeId} {pos : String} {aft : Array Edge} {x : Operand} {t : TypeId} {b off n : Nat} {M : List Value} (ht : aggSize P t n) (hx : a.eval x = .pointer (some ⟨b, off, none⟩)) (hb : Cells w b off M) (hl : M.length = n) (h : wpList P ops Q rest (a.put dst (.agg M.toArray)) w) : wpList P ops Q (⟨dst, .load t x, ty, pos, aft, none⟩ :: rest) a w :=
  wpList_run rfl (run_load_cellsT ht hx hb hl) h
/-- Where a handle stands. -/
def atK (l : List EntB) (t : Int) : Int := if hasK ltI l t then ((posK ltI l t : Nat) : Int) else -1
theorem at_hit {l : List EntB} (hs : Sorted ltI l) {i : Nat} (h : i < l.length) {t : Int} (he : l[i].1 = t) : hasK ltI l t = true ∧ posK ltI l t = i := by
  have hp : i = posK ltI l t := posK_eq (Nat.le_of_lt h) (fun j hj hji => by rw [← he]; exact hs.get hj h hji) (fun _ => by rw [← he]; simp [ltI])
  refine ⟨?_, hp.symm⟩
  rw [hasK_get (by omega)]
  have e : (l[posK ltI l t]'(by omega)).1 = t := by
    have : l[posK ltI l t]'(by omega) = l[i] := by congr 1; exact hp.symm
    rw [this, he]
  rw [e]
  simp [ltI]
theorem at_miss {l : List EntB} {t : Int} (h : ∀ j (h : j < l.length), l[j].1 ≠ t) : hasK ltI l t = false := by
  cases hh : hasK ltI l t with
  | false => rfl
  | true => exact absurd (hasK_key strictI hh) (h _ (hasK_lt hh))
set_option maxHeartbeats 1000000 in
theorem rat_at (w : World) (n la : Int) (v : Value) (l : List EntB) (h : SrcEB w v l) (hs : Sorted ltI l) (hl : l.length ≤ 1000) (t : Int) (r : Int) (hr : atK l t = r) :
    Calls Try.prog 29 #[.agg #[.int .i64 n, .int .i64 la, v], .int .i64 t] w fun e w' => e = .returned (.int .i64 r) ∧ Kept (fun _ => False) w w' := by
  obtain ⟨ao, cap, rfl⟩ := h.sl
  have H := hide h
  have HS := hide hs
  have HR := hide hr
  obtain ⟨i0, hi0, hz0, hs0, hb0⟩ := info_parts Try.info57
  have Hi0 := hide hi0
  have Hz0 := hide hz0
  clear h hs hr hi0 hz0 hs0 hb0
  go_enter Try.func29, Try.ntmps29
  go_wp2_with (first
    | ((with_reducible refine aw_box (t := 30) (v := .agg #[.int .i64 n, .int .i64 la, .slice ao l.length cap]) rfl ?_); intro w1 hb1 hk1 hz1; have HK1 := hide hk1; have c2 : w1.cell? ⟨w.heap.size, 2, none⟩ = some (.slice ao l.length cap) := hb1.cell 2; clear hk1 hz1 hb1)
    | fail)
  go_loopw [10] (fun iv wr => ∃ i : Nat, iv = .int .i64 i ∧ i ≤ l.length ∧ Hid (Kept (fun _ => False) w wr) ∧ Hid (∀ j (h : j < l.length), j < i → l[j].1 ≠ t)) (fun iv _ => l.length - (intOf iv).toNat)
  case atStart => exact ⟨0, rfl, Nat.zero_le _, HK1, hide (fun j _ h => by omega)⟩
  case round =>
    clear HK1 c2
    obtain ⟨i, rfl, hi, HK, HN⟩ := hrel
    by_cases hlt : i < l.length
    · obtain ⟨g, off, rfl, hcc⟩ := (H.out.kept HK.out).get hlt
      have HM : Hid (l[i].1 = t → atK l t = (i : Int)) := hide (fun e => by
        have := at_hit HS.out hlt e
        unfold atK
        rw [this.1, this.2]
        rfl)
      have HN2 : Hid (l[i].1 ≠ t → ∀ j (h : j < l.length), j < i + 1 → l[j].1 ≠ t) := hide (fun hne j hj hji e => by
        by_cases e2 : j = i
        · subst e2; exact hne e
        · exact HN.out j hj (by omega) e)
      obtain ⟨x, hx⟩ : ∃ x, x = l[i] := ⟨_, rfl⟩
      rw [← hx] at hcc HM HN2
      obtain ⟨xk, ⟨xa, xn, xc⟩⟩ := x
      simp only at hcc HM HN2
      have HC := hide hcc
      clear hx hcc HN
      by_cases hk : xk = t
      · have HF : Hid (((i : Nat) : Int) = r) := hide (by rw [← HM.out hk, HR.out])
        subst hk
        clear HM HN2
        go_wp2_with (first
          | (with_reducible refine aw_loadT Try.agg57 rfl HC.out rfl ?_)
          | ((with_reducible refine aw_alloc (t := 57) (dst := some 6) Hi0.out Hz0.out ?_); intro w2 hw2 hk2 hz2; have Hz2 := hide hz2; clear hz2)
          | ((with_reducible refine aw_store (M := [.int .i64 xk, .slice xa xn xc]) Try.agg57 rfl rfl rfl (by simp [Value.oneCell']) hw2 (by simp [Value.cells]) ?_); intro w3 hw3 hk3 hz3; rw [put_whole _ _ (by simp [Value.cells])] at hw3; have f0 : w3.cell? ⟨wr.heap.size, 0, none⟩ = some (.int .i64 xk) := hw3.cell 0; have HK3 := hide (HK.out.trans (hk2.trans hk3 (S := fun _ => False) (fun i hi h => by omega)) (fun _ _ h => h)); clear hz3 hw2 hw3 hk2 hk3)
          | fail)
        go_ret
        exact ⟨by rw [HF.out]; rfl, HK3.out⟩
      · have HN3 := hide (HN2.out hk)
        clear HM HN2
        go_wp2_with (first
          | (with_reducible refine aw_loadT Try.agg57 rfl HC.out rfl ?_)
          | ((with_reducible refine aw_alloc (t := 57) (dst := some 6) Hi0.out Hz0.out ?_); intro w2 hw2 hk2 hz2; have Hz2 := hide hz2; clear hz2)
          | ((with_reducible refine aw_store (M := [.int .i64 xk, .slice xa xn xc]) Try.agg57 rfl rfl rfl (by simp [Value.oneCell']) hw2 (by simp [Value.cells]) ?_); intro w3 hw3 hk3 hz3; rw [put_whole _ _ (by simp [Value.cells])] at hw3; have f0 : w3.cell? ⟨wr.heap.size, 0, none⟩ = some (.int .i64 xk) := hw3.cell 0; have HK3 := hide (HK.out.trans (hk2.trans hk3 (S := fun _ => False) (fun i hi h => by omega)) (fun _ _ h => h)); clear hz3 hw2 hw3 hk2 hk3)
          | fail)
        go_roundw
        case rel => exact ⟨i + 1, by simp, by omega, HK3, HN3⟩
        case measure => simp [intOf]; omega
    · obtain rfl : l.length = i := by omega
      have HF : Hid ((-1 : Int) = r) := hide (by
        rw [← HR.out]
        unfold atK
        rw [at_miss (fun j hj => HN.out j hj hj)]
        rfl)
      go_wp2
      go_ret
      exact ⟨by rw [← HF.out]; rfl, HK.out⟩

/-- What stands at a handle's place. -/
theorem curX_get {E : List EntX} {t : Int} (h : hasK ltI (entsX E) t = true) : ∃ hlt : posK ltI (entsX E) t < (entsX E).length, (entsX E)[posK ltI (entsX E) t].2 = (curX E t).1 := by
  have hlt := hasK_lt h
  refine ⟨hlt, ?_⟩
  have h1 := curX_sl E t
  rw [getK_hasW h] at h1
  exact h1
theorem TxAt.cur {w : World} {v : Value} {E : List EntX} (h : TxAt w v E) (k : Int) : WsAt w (curX E k).1.v (curX E k).2 := by
  rcases valK_cases (lt := ltI) ((⟨none, 0, 0⟩ : Sl), ([] : List Wv)) E k with e | ⟨j, hj⟩
  · unfold curX; rw [e]; exact WsAt.nil w
  · exact h.2 _ hj
theorem TxAt.kept {w w' : World} {v : Value} {E : List EntX} (h : TxAt w v E) (hk : Kept (fun _ => False) w w') : TxAt w' v E := ⟨h.1.kept hk, fun x hx => (h.2 x hx).kept hk⟩
theorem ents_rows_has (E : List EntX) (t : Int) : hasK ltI (rowsX E) t = hasK ltI (entsX E) t := by unfold rowsX entsX; rw [hasK_map, hasK_map]
theorem rwrites_no (w : World) (n la : Int) (v : Value) (E : List EntX) (h : TxAt w v E) (hs : Sorted ltI (entsX E)) (hl : E.length ≤ 1000) (t : Int) (hh : hasK ltI (entsX E) t = false) :
    Calls Try.prog 18 #[.agg #[.int .i64 n, .int .i64 la, v], .int .i64 t] w fun e w' => e = .returned (.tuple #[.slice none 0 0, .int .i64 40]) ∧ Kept (fun _ => False) w w' := by
  have HA : Hid (∀ w', Kept (fun _ => False) w w' → Calls Try.prog 29 #[.agg #[.int .i64 n, .int .i64 la, v], .int .i64 t] w' fun e w'' => e = .returned (.int .i64 (-1)) ∧ Kept (fun _ => False) w' w'') := hide (fun w' hk => rat_at w' n la v _ (h.1.kept hk) hs (by rw [entsX_len]; exact hl) t (-1) (by unfold atK; rw [hh]; rfl))
  obtain ⟨ao, cap, rfl⟩ := h.1.sl
  clear h hs hh
  generalize (entsX E).length = len at *
  go_enter Try.func18, Try.ntmps18
  go_wp2_with (first
    | ((with_reducible refine aw_box (t := 30) (v := .agg #[.int .i64 n, .int .i64 la, .slice ao len cap]) rfl ?_); intro w1 hb1 hk1 hz1; have HK1 := hide hk1; have HB1 := hide hb1; clear hk1 hz1 hb1)
    | ((with_reducible refine aw_load (M := [.int .i64 n, .int .i64 la, .slice ao len cap]) Try.agg30 rfl HB1.out (by simp [Value.cells]) rfl ?_))
    | (go_at_call 29; refine (HA.out w1 HK1.out).mono ?_; rintro e w2 ⟨rfl, hk2⟩; have HK2 := hide (HK1.out.trans hk2 (fun _ _ h => h)); clear hk2))
  go_ret2
  exact ⟨rfl, HK2.out⟩
theorem rwrites_ok (w : World) (n la : Int) (v : Value) (E : List EntX) (h : TxAt w v E) (hs : Sorted ltI (entsX E)) (hl : E.length ≤ 1000) (t : Int) (hh : hasK ltI (entsX E) t = true) :
    Calls Try.prog 18 #[.agg #[.int .i64 n, .int .i64 la, v], .int .i64 t] w fun e w' => e = .returned (.tuple #[.slice (curX E t).1.a (curX E t).1.n (curX E t).1.c, .int .i64 0]) ∧ Kept (fun _ => False) w w' := by
  obtain ⟨hlt, hcu⟩ := curX_get hh
  have HA : Hid (∀ w', Kept (fun _ => False) w w' → Calls Try.prog 29 #[.agg #[.int .i64 n, .int .i64 la, v], .int .i64 t] w' fun e w'' => e = .returned (.int .i64 ((posK ltI (entsX E) t : Nat) : Int)) ∧ Kept (fun _ => False) w' w'') := hide (fun w' hk => rat_at w' n la v _ (h.1.kept hk) hs (by rw [entsX_len]; exact hl) t _ (by unfold atK; rw [hh]; rfl))
  obtain ⟨ao, cap, rfl⟩ := h.1.sl
  obtain ⟨g, off, rfl, hcc⟩ := h.1.get hlt
  rw [hcu] at hcc
  obtain ⟨p, pk, hlt2, hp, hcc2⟩ : ∃ (p : Nat) (pk : Int), p < (entsX E).length ∧ posK ltI (entsX E) t = p ∧ Cells w g (off + p * 2) [.int .i64 pk, .slice (curX E t).1.a (curX E t).1.n (curX E t).1.c] := ⟨_, _, hlt, rfl, hcc⟩
  rw [hp] at HA
  have HC := hide hcc2
  have hln : (entsX E).length ≤ 1000 := by rw [entsX_len]; exact hl
  clear h hs hh hcu hcc hcc2 hlt hp
  generalize (entsX E).length = len at *
  generalize (curX E t).1 = s at *
  obtain ⟨sa, sn, sc⟩ := s
  simp only at HC ⊢
  go_enter Try.func18, Try.ntmps18
  go_wp2_with (first
    | ((with_reducible refine aw_box (t := 30) (v := .agg #[.int .i64 n, .int .i64 la, .slice (some ⟨g, off, none⟩) len cap]) rfl ?_); intro w1 hb1 hk1 hz1; have HK1 := hide hk1; have HB1 := hide hb1; clear hk1 hz1 hb1)
    | ((with_reducible refine aw_load (M := [.int .i64 n, .int .i64 la, .slice (some ⟨g, off, none⟩) len cap]) Try.agg30 rfl HB1.out (by simp [Value.cells]) rfl ?_))
    | (go_at_call 29; refine (HA.out w1 HK1.out).mono ?_; rintro e w2 ⟨rfl, hk2⟩; have HK2 := hide (HK1.out.trans hk2 (fun _ _ h => h)); have c2 : w2.cell? ⟨w.heap.size, 2, none⟩ = some (.slice (some ⟨g, off, none⟩) len cap) := (hk2.blk HB1.out (fun h => h)).cell 2; have c1 : w2.cell? ⟨g, off + p * 2 + 1, none⟩ = some (.slice sa sn sc) := (HK2.out.cells HC.out (fun h => h)) 1 _ rfl; clear hk2))
  go_ret2
  exact ⟨rfl, HK2.out⟩
end Go.Proofs.Ytclfklcboigifaa
