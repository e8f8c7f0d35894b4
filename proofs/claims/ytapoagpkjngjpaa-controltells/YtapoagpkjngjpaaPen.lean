/-
  A pen: Number, Text, Bytes, Padded.
-/
import Derived.Test.YtapoagpkjngjpaaFirstN
import Derived.Test.YtapoagpkjngjpaaReg2
namespace Go.Proofs.Ytapoagpkjngjpaa
open Go.RowKit Go.Shelf
set_option linter.unusedSimpArgs false
set_option linter.unusedVariables false
set_option maxRecDepth 100000

section
variable {ρ : Operand → Value} {w : World} {dst : Option Tmp} {ty : TypeId} {pos : String} {aft : Array Edge} {gd : Option (Nat × Bool)} {x y z : Operand}
theorem r_nilChk {a : Addr} (hx : ρ x = .pointer (some a)) : (execOp ρ ⟨dst, .nilCheck x, ty, pos, aft, gd⟩).run Try.prog w = .ok (.value (.pointer (some a))) w := by
  go_simp
theorem r_fld27 {b : Nat} (hx : ρ x = .pointer (some ⟨b, 0, none⟩)) : (execOp ρ ⟨dst, .fieldAddr 66 x 0, ty, pos, aft, gd⟩).run Try.prog w = .ok (.value (.pointer (some ⟨b, 0, none⟩))) w := by
  go_simp
theorem r_ld25 {b o : Nat} {v : Value} (hx : ρ x = .pointer (some ⟨b, o, none⟩)) (hc : w.cell? ⟨b, o, none⟩ = some v) : (execOp ρ ⟨dst, .load 24 x, ty, pos, aft, gd⟩).run Try.prog w = .ok (.value v) w := by
  go_simp
theorem r_st25 {b : Nat} {bo : Option Addr} {n c : Nat} {u : Value} {L : List Value} {e : TypeId} (hx : ρ x = .pointer (some ⟨b, 0, none⟩)) (hy : ρ y = .slice bo n c) (hb : Blk w b (u :: L) e) : (execOp ρ ⟨dst, .store 24 x y, ty, pos, aft, gd⟩).run Try.prog w = .ok .skip (w.setCell ⟨b, 0, none⟩ (.slice bo n c)) := by
  have c0 := hb.cell 0
  have f0 := hb.frozen 0
  simp at c0
  go_simp
theorem r_mul8 {j : Nat} (hj : j ≤ 8) (hx : ρ x = .int .i64 8) (hy : ρ y = .int .i64 j) : (execOp ρ ⟨dst, .binOp .mul 3 x y 3, ty, pos, aft, gd⟩).run Try.prog w = .ok (.value (.int .i64 ((8 * j : Nat) : Int))) w := by
  have h : IntKind.i64.wrap (8 * (j : Int)) = ((8 * j : Nat) : Int) := by rw [IntKind.wrap_i64]; omega
  go_simp
theorem r_conv35 {p : Nat} (hx : ρ x = .int .i64 p) : (execOp ρ ⟨dst, .convert 3 5 x, ty, pos, aft, gd⟩).run Try.prog w = .ok (.value (.int .u8 ((p % 256 : Nat) : Int))) w := by
  have h : IntKind.u8.wrap (p : Int) = ((p % 256 : Nat) : Int) := by rw [IntKind.wrap_u8]; omega
  go_simp
end

/-- A pen at p, whose slice is v, with what it has written. -/
def PenAt (w : World) (p : Nat) (v : Value) (A : List Nat) : Prop := Blk w p [v] 66 ∧ Own w 0 v A
theorem PenAt.kept {w w' : World} {p : Nat} {v : Value} {A : List Nat} {S : Nat → Prop} (h : PenAt w p v A) (hk : Kept S w w') (hp : ¬ S p) (hv : ∀ k, v.ownBlock = some k → ¬ S k) : PenAt w' p v A := ⟨hk.blk h.1 hp, h.2.kept hk hv⟩
theorem PenAt.ne {w : World} {p q : Nat} {v : Value} {A L : List Nat} {M : List Value} {t : TypeId} (h : PenAt w p v A) (hb : Blk w q M t) (ht : t ≠ 5) : v.ownBlock ≠ some q := h.2.blk_ne hb ht
theorem PenAt.lt {w : World} {p : Nat} {v : Value} {A : List Nat} (h : PenAt w p v A) : ∀ x ∈ A, x < 256 := h.2.2
theorem PenAt.slice {w : World} {p : Nat} {v : Value} {A : List Nat} (h : PenAt w p v A) : ∃ bo c, v = .slice bo A.length c := by
  obtain ⟨bo, c, e, _⟩ := h.2.src
  exact ⟨bo, c, e⟩
/-- What a pen's call may change: its own block, and its slice's. -/
def penS (p : Nat) (v : Value) (k : Nat) : Prop := k = p ∨ v.ownBlock = some k
/-- Where the slice lies afterwards. -/
def moved (w : World) (v v' : Value) : Prop := ∀ k, v'.ownBlock = some k → v.ownBlock = some k ∨ w.heap.size ≤ k
theorem moved.refl (w : World) (v : Value) : moved w v v := fun k h => .inl h
theorem moved.trans {w w' : World} {v v' v'' : Value} (h : moved w v v') (h2 : moved w' v' v'') (hs : w.heap.size ≤ w'.heap.size) : moved w v v'' := fun k hk => by
  rcases h2 k hk with h3 | h3
  · exact h k h3
  · exact .inr (by omega)
theorem penS_trans {w w' w'' : World} {p : Nat} {v v' : Value} (h : Kept (penS p v) w w') (hm : moved w v v') (h2 : Kept (penS p v') w' w'') : Kept (penS p v) w w'' :=
  h.trans h2 (fun i hi hs => by
    rcases hs with rfl | hs
    · exact .inl rfl
    · rcases hm i hs with h3 | h3
      · exact .inr h3
      · omega)

/-- append a slice's bytes, and store what comes out. -/
theorem PenAt.stored {w w1 : World} {p : Nat} {v : Value} {A B : List Nat} {bo : Option Addr} {n c : Nat} (h : PenAt w p v A) (ho : Own w1 0 (.slice bo n c) (A ++ B)) (hk : Kept (fun k => v.ownBlock = some k) w w1) (hm : (Value.slice bo n c).ownBlock = v.ownBlock ∨ (Value.slice bo n c).ownBlock = some w.heap.size) :
    PenAt (w1.setCell ⟨p, 0, none⟩ (.slice bo n c)) p (.slice bo n c) (A ++ B) ∧ Kept (penS p v) w (w1.setCell ⟨p, 0, none⟩ (.slice bo n c)) ∧ moved w v (.slice bo n c) := by
  have hp1 : Blk w1 p [v] 66 := hk.blk h.1 (fun e => h.2.blk_ne h.1 (by decide) e)
  have hk2 := Kept.setCell (S := fun k => k = p) w1 ⟨p, 0, none⟩ (.slice bo n c) rfl
  refine ⟨⟨by simpa using hp1.setCell 0 (.slice bo n c), ho.kept hk2 (fun k hk e => ho.blk_ne hp1 (by decide) (by rw [hk, e]))⟩, ?_, ?_⟩
  · exact (hk.mono (fun i _ h => Or.inr h) : Kept (penS p v) w w1).trans hk2 (fun i _ e => .inl e)
  · intro k hk
    rcases hm with e | e
    · exact .inl (by rw [← e]; exact hk)
    · rw [e] at hk
      cases hk
      exact .inr (Nat.le_refl _)

theorem number_nil (w : World) (n m : Int) : Calls Try.prog 29 #[.pointer none, .int .i64 n, .int .i64 m] w fun e w' => e = .returned (.bool false) ∧ w = w' := by
  go_enter Try.func29, Try.ntmps29
  go_wp2
  go_ret
  exact ⟨rfl, rfl⟩
theorem number_bad (w : World) (p : Nat) (n m : Int) (hn : n ≤ 9223372036854775807) (h : fitsN n m = false) : Calls Try.prog 29 #[.pointer (some ⟨p, 0, none⟩), .int .i64 n, .int .i64 m] w fun e w' => e = .returned (.bool false) ∧ w = w' := by
  have HG := hide (goesInto_at w n m hn)
  rw [h] at HG
  go_enter Try.func29, Try.ntmps29
  go_wp2_with fail
  refine HG.out.mono ?_
  rintro e w1 ⟨rfl, rfl⟩
  go_wp2
  go_ret
  exact ⟨rfl, rfl⟩

set_option maxRecDepth 100000 in
set_option maxHeartbeats 2000000 in
theorem number_ok (w : World) (p : Nat) (v : Value) (A : List Nat) (hp : PenAt w p v A) (hl : A.length ≤ 90000000) (n m : Nat) (hn : n ≤ 9223372036854775807) (hf : fitsN n m = true) :
    Calls Try.prog 29 #[.pointer (some ⟨p, 0, none⟩), .int .i64 n, .int .i64 m] w fun e w' => ∃ v', e = .returned (.bool true) ∧ PenAt w' p v' (A ++ numB n m) ∧ Kept (penS p v) w w' ∧ moved w v v' := by
  have HG := hide (goesInto_at w n m (by omega))
  rw [hf] at HG
  obtain ⟨a, b, e1, e2, h1, h8, hfit⟩ := fits_of hf
  obtain rfl : n = a := by omega
  obtain rfl : m = b := by omega
  have hw1 : IntKind.i64.wrap ((m : Int) - 1) = (m : Int) - 1 := by rw [IntKind.wrap_i64]; omega
  have HP := hide hp
  clear hf e1 e2 hp
  go_enter Try.func29, Try.ntmps29
  go_wp2_with fail
  refine HG.out.mono ?_
  rintro e w1 ⟨rfl, rfl⟩
  go_wp2
  go_loopw [7] (fun i wr => ∃ (j : Nat) (u : Value), j ≤ m ∧ i = .int .i64 ((j : Int) - 1) ∧ PenAt wr p u (A ++ numB (n / 256 ^ j) (m - j)) ∧ Kept (penS p v) w wr ∧ moved w v u) (fun i _ => ((intOf i) + 1).toNat)
  case atStart => exact ⟨m, v, Nat.le_refl _, rfl, by rw [Nat.sub_self]; simpa [numB] using HP.out, Kept.refl _ _, moved.refl _ _⟩
  case round =>
    obtain ⟨j, u, hj, rfl, hpen, hk, hm⟩ := hrel
    match j, hj with
    | 0, hj =>
      rw [show ((0 : Nat) : Int) - 1 = -1 by omega]
      have HPen := hide hpen
      clear hpen
      go_wp2
      go_ret
      exact ⟨u, rfl, by simpa using HPen.out, hk, hm⟩
    | i + 1, hj =>
      rw [show ((i + 1 : Nat) : Int) - 1 = (i : Int) by omega]
      have HPen := hide hpen
      have HNum : Hid (A ++ numB (n / 256 ^ i) (m - i) = A ++ numB (n / 256 ^ (i + 1)) (m - (i + 1)) ++ [n / 2 ^ (8 * i) % 256]) := hide (by
        rw [show m - i = (m - (i + 1)) + 1 by omega, numB, Nat.div_div_eq_div_mul, ← Nat.pow_succ, pow_8, List.append_assoc])
      have hwi : IntKind.i64.wrap ((i : Int) - 1) = (i : Int) - 1 := by rw [IntKind.wrap_i64]; omega
      have hlen : (A ++ numB (n / 256 ^ (i + 1)) (m - (i + 1))).length ≤ 90000010 := by rw [List.length_append, numB_length]; omega
      have hub := hpen.slice
      clear hpen
      generalize A ++ numB (n / 256 ^ (i + 1)) (m - (i + 1)) = C at *
      go_wp2
      refine hold_frame (p := fun fr => Code.wp Try.prog _ _ fr _) ?_
      intro fr hfr
      have e0 : fr.eval (.tmp 0) = .pointer (some ⟨p, 0, none⟩) := by rw [hfr.out]; rfl
      have e1 : fr.eval (.tmp 1) = .int .i64 n := by rw [hfr.out]; rfl
      have e7 : fr.eval (.tmp 7) = .int .i64 i := by rw [hfr.out]; rfl
      have hts : fr.tmps.size = 36 := by rw [hfr.out]; rfl
      refine region_S 14 (fun U => Blk U p [u] 66) Try.mixed ?_
      intro w0 hkw hheap
      have hP0 : PenAt w0 p u C := HPen.out.kept hkw (fun h => h) (fun _ _ h => h)
      have hS0 : Blk w0 p [u] 66 := hP0.1
      refine tkS 0 22 (v := .pointer (some ⟨p, 0, none⟩)) hS0 rfl rfl (by kernel_rfl) (by kernel_rfl) (by kernel_rfl) (by kernel_rfl) (wanted_none rfl) (fun _ _ _ h => h) (fun U hU => r_move (by simp [eval_put_ne, eval_put_eq, size_put, hts, e0])) ?_
      refine tkS 1 23 (v := .pointer (some ⟨p, 0, none⟩)) hS0 rfl rfl (by kernel_rfl) (by kernel_rfl) (by kernel_rfl) (by kernel_rfl) (wanted_none rfl) (fun _ _ _ h => h) (fun U hU => r_move (by simp [eval_put_ne, eval_put_eq, size_put, hts, e0])) ?_
      refine tkS 2 24 (v := .pointer (some ⟨p, 0, none⟩)) hS0 rfl rfl (by kernel_rfl) (by kernel_rfl) (by kernel_rfl) (by kernel_rfl) (wanted_none rfl) (fun _ _ _ h => h) (fun U hU => r_nilChk (by simp [eval_put_ne, eval_put_eq, size_put, hts])) ?_
      refine tkS 3 25 (v := .pointer (some ⟨p, 0, none⟩)) hS0 rfl rfl (by kernel_rfl) (by kernel_rfl) (by kernel_rfl) (by kernel_rfl) (wanted_none rfl) (fun _ _ _ h => h) (fun U hU => r_fld27 (by simp [eval_put_ne, eval_put_eq, size_put, hts])) ?_
      refine tkS 4 26 (v := u) hS0 rfl rfl (by kernel_rfl) (by kernel_rfl) (by kernel_rfl) (by kernel_rfl) (wanted_none rfl) (fun _ _ _ h => h) (fun U hU => r_ld25 (by simp [eval_put_ne, eval_put_eq, size_put, hts]) (hU.cell 0)) ?_
      refine tkS 5 27 (v := .int .i64 n) hS0 rfl rfl (by kernel_rfl) (by kernel_rfl) (by kernel_rfl) (by kernel_rfl) (wanted_none rfl) (fun _ _ _ h => h) (fun U hU => r_move (by simp [eval_put_ne, eval_put_eq, size_put, hts, e1])) ?_
      refine tkS 6 28 (v := .int .i64 i) hS0 rfl rfl (by kernel_rfl) (by kernel_rfl) (by kernel_rfl) (by kernel_rfl) (wanted_none rfl) (fun _ _ _ h => h) (fun U hU => r_move (by simp [eval_put_ne, eval_put_eq, size_put, hts, e7])) ?_
      refine tkS 7 29 (v := .int .i64 ((8 * i : Nat) : Int)) hS0 rfl rfl (by kernel_rfl) (by kernel_rfl) (by kernel_rfl) (by kernel_rfl) (wanted_none rfl) (fun _ _ _ h => h) (fun U hU => r_mul8 (j := i) (by omega) rfl (by simp [eval_put_ne, eval_put_eq, size_put, hts])) ?_
      refine tkS 8 30 (v := .int .i64 ((n / 2 ^ (8 * i) : Nat) : Int)) hS0 rfl rfl (by kernel_rfl) (by kernel_rfl) (by kernel_rfl) (by kernel_rfl) (wanted_none rfl) (fun _ _ _ h => h) (fun U hU => r_shr64 (k := .i64) (by omega) (by simp [eval_put_ne, eval_put_eq, size_put, hts]) (by simp [eval_put_ne, eval_put_eq, size_put, hts])) ?_
      refine tkS 9 31 (v := .int .u8 ((n / 2 ^ (8 * i) % 256 : Nat) : Int)) hS0 rfl rfl (by kernel_rfl) (by kernel_rfl) (by kernel_rfl) (by kernel_rfl) (wanted_none rfl) (fun _ _ _ h => h) (fun U hU => r_conv35 (by simp [eval_put_ne, eval_put_eq, size_put, hts])) ?_
      have hxb : n / 2 ^ (8 * i) % 256 < 256 := Nat.mod_lt _ (by decide)
      generalize n / 2 ^ (8 * i) % 256 = x at *
      have hkA := Kept.alloc (fun _ => False) w0 (.cells (BV [x]).toArray 5)
      have hbA := Blk.new w0 (BV [x]) 5
      have hsA : Src (w0.alloc (.cells (BV [x]).toArray 5)) (.slice (some ⟨w0.heap.size, 0, none⟩) 1 1) [x] := hbA.src (B := [x]) (cap := 1) (by simp [BV]) (by simpa using hxb) (Nat.le_refl _)
      have hPA : PenAt (w0.alloc (.cells (BV [x]).toArray 5)) p u C := hP0.kept hkA (fun h => h) (fun _ _ h => h)
      refine oneVS 10 32 (by kernel_rfl) rfl rfl (wanted_none rfl) (r_bs25 (w := w0) [x] rfl (by simp) (by simp [eval_put_ne, eval_put_eq, size_put, hts, BV])) hPA.1 ?_
      generalize w0.alloc (.cells (BV [x]).toArray 5) = wA at *
      generalize w0.heap.size = gA at *
      obtain ⟨v1, wB, hr1, ho1, hk1, hm1⟩ := append_src hPA.2 hsA (by simp; omega) (Nat.zero_le _) 24
      obtain ⟨bo, c, e, _⟩ := ho1.src
      subst e
      obtain ⟨hPB, hkB, hmB⟩ := hPA.stored ho1 hk1 hm1
      have hSB : Blk wB p [u] 66 := hk1.blk hPA.1 (fun e => hPA.2.blk_ne hPA.1 (by decide) e)
      refine oneVS 11 33 (by kernel_rfl) rfl rfl (wanted_none rfl) (r_append25 (by simp [eval_put_ne, eval_put_eq, size_put, hts]) (by simp [eval_put_ne, eval_put_eq, size_put, hts]) hr1) hSB ?_
      refine oneVS 12 34 (v := .pointer (some ⟨p, 0, none⟩)) (by kernel_rfl) rfl rfl (wanted_none rfl) (r_nilChk (by simp [eval_put_ne, eval_put_eq, size_put, hts])) hSB ?_
      refine oneVS 13 35 (v := .pointer (some ⟨p, 0, none⟩)) (by kernel_rfl) rfl rfl (wanted_none rfl) (r_fld27 (by simp [eval_put_ne, eval_put_eq, size_put, hts])) hSB ?_
      refine lastS (by kernel_rfl) rfl (wanted_none rfl) (r_st25 (L := []) (bo := bo) (n := (C ++ [x]).length) (c := c) (by simp [eval_put_ne, eval_put_eq, size_put, hts]) (by simp [eval_put_ne, eval_put_eq, size_put, hts]) hSB) (by kernel_rfl) ?_
      have hk0A : Kept (penS p u) wr w0 := hkw.mono (fun _ _ h => h.elim)
      have hkf : Kept (penS p u) wr (wB.setCell ⟨p, 0, none⟩ (.slice bo (C ++ [x]).length c)) := (hk0A.trans (hkA.mono (fun _ _ h => h.elim) : Kept (penS p u) w0 wA) (fun _ _ h => h)).trans hkB (fun _ _ h => h)
      have hkF := penS_trans hk hm hkf
      have hmF : moved w v (.slice bo (C ++ [x]).length c) := hm.trans (hmB) (by have := hk.size; have := hkw.size; have := hkA.size; omega)
      generalize wB.setCell ⟨p, 0, none⟩ (.slice bo (C ++ [x]).length c) = wF at *
      rw [hfr.out]
      clear hfr e0 e1 e7 hts
      simp only [put_lit, List.set_cons_succ, List.set_cons_zero]
      have HPB := hide hPB
      clear hPB hPA hbA hsA hkA hkB hk1 hr1 ho1 hm1 hSB hS0 hP0
      go_wp2
      go_roundw
      case rel => exact ⟨i, _, by omega, rfl, by rw [HNum.out]; exact HPB.out, hkF, hmF⟩
      case measure => simp [intOf]

/-- What a pen has written behind Number. -/
def penNum (A : List Nat) (n m : Int) : List Nat := if fitsN n m then A ++ numB n.toNat m.toNat else A
theorem number_at (w : World) (p : Nat) (v : Value) (A : List Nat) (hp : PenAt w p v A) (hl : A.length ≤ 90000000) (n m : Int) (hn : n ≤ 9223372036854775807) :
    Calls Try.prog 29 #[.pointer (some ⟨p, 0, none⟩), .int .i64 n, .int .i64 m] w fun e w' => ∃ v', e = .returned (.bool (fitsN n m)) ∧ PenAt w' p v' (penNum A n m) ∧ Kept (penS p v) w w' ∧ moved w v v' := by
  by_cases h : fitsN n m = true
  · obtain ⟨a, b, rfl, rfl, h1, h8, hfit⟩ := fits_of h
    unfold penNum
    rw [h, if_pos rfl]
    simp only [Int.toNat_natCast]
    exact number_ok w p v A hp hl a b (by omega) h
  · have h' : fitsN n m = false := by simpa using h
    refine (number_bad w p n m hn h').mono ?_
    rintro e w' ⟨rfl, rfl⟩
    unfold penNum
    rw [h']
    exact ⟨v, rfl, by simpa using hp, Kept.refl _ _, moved.refl _ _⟩

/-- A pen that is new since w0, and nothing of w0 has changed. -/
def Pn (w0 w : World) (p : Nat) (A : List Nat) : Prop := w0.heap.size ≤ p ∧ Kept (fun _ => False) w0 w ∧ ∃ v, PenAt w p v A ∧ ∀ k, v.ownBlock = some k → w0.heap.size ≤ k
theorem Pn.kept {w0 w w' : World} {p : Nat} {A : List Nat} (h : Pn w0 w p A) (hk : Kept (fun _ => False) w w') : Pn w0 w' p A := by
  obtain ⟨h1, h2, v, h3, h4⟩ := h
  exact ⟨h1, h2.trans hk (fun _ _ h => h), v, h3.kept hk (fun h => h) (fun _ _ h => h), h4⟩
theorem Pn.of {w0 w w' : World} {p : Nat} {v v' : Value} {A : List Nat} (h1 : w0.heap.size ≤ p) (h2 : Kept (fun _ => False) w0 w) (h4 : ∀ k, v.ownBlock = some k → w0.heap.size ≤ k) (hp : PenAt w' p v' A) (hk : Kept (penS p v) w w') (hm : moved w v v') : Pn w0 w' p A :=
  ⟨h1, h2.trans hk (fun i hi hs => by
    rcases hs with rfl | hs
    · omega
    · have := h4 i hs; omega), v', hp, fun k hk2 => by
    rcases hm k hk2 with h | h
    · exact h4 k h
    · have := h2.size; omega⟩
theorem Pn.lt {w0 w : World} {p : Nat} {A : List Nat} (h : Pn w0 w p A) : ∀ x ∈ A, x < 256 := by
  obtain ⟨h1, h2, v, h3, h4⟩ := h
  exact h3.lt
theorem Pn.base {w0 w : World} {p : Nat} {A : List Nat} (h : Pn w0 w p A) : Kept (fun _ => False) w0 w := h.2.1
theorem number_pn (w0 w : World) (p : Nat) (A : List Nat) (hp : Pn w0 w p A) (hl : A.length ≤ 90000000) (n m : Int) (hn : n ≤ 9223372036854775807) :
    Calls Try.prog 29 #[.pointer (some ⟨p, 0, none⟩), .int .i64 n, .int .i64 m] w fun e w' => e = .returned (.bool (fitsN n m)) ∧ Pn w0 w' p (penNum A n m) := by
  obtain ⟨h1, h2, v, h3, h4⟩ := hp
  refine (number_at w p v A h3 hl n m hn).mono ?_
  rintro e w' ⟨v', rfl, hp, hk, hm⟩
  exact ⟨rfl, Pn.of h1 h2 h4 hp hk hm⟩

theorem text_nil (w : World) (v : Value) : Calls Try.prog 51 #[.pointer none, v] w fun e w' => e = .returned (.bool false) ∧ w = w' := by
  go_enter Try.func51, Try.ntmps51
  go_wp2
  go_ret
  exact ⟨rfl, rfl⟩

set_option maxHeartbeats 2000000 in
theorem text_at (w : World) (p : Nat) (v : Value) (A : List Nat) (hp : PenAt w p v A) (hl : A.length ≤ 80000000) (vb : Value) (B : List Nat) (hs : Src w vb B) (hd : ∀ w', Kept (penS p v) w w' → Src w' vb B) (hB : B.length ≤ 65535) :
    Calls Try.prog 51 #[.pointer (some ⟨p, 0, none⟩), vb] w fun e w' => ∃ v', e = .returned (.bool true) ∧ PenAt w' p v' (A ++ textB B) ∧ Kept (penS p v) w w' ∧ moved w v v' := by
  have HN := hide (number_at w p v A hp (by omega) B.length 2 (by omega))
  have hfit : fitsN B.length 2 = true := by
    unfold fitsN
    rw [decide_eq_true]
    exact ⟨by decide, by decide, by omega, by simp; omega⟩
  have HA : Hid (penNum A B.length 2 = A ++ numB B.length 2) := hide (by unfold penNum; rw [hfit]; rfl)
  rw [HA.out, hfit] at HN
  have HT : Hid (A ++ numB B.length 2 ++ B = A ++ textB B) := hide (by simp [textB])
  have hlen : (A ++ numB B.length 2).length ≤ 80000002 := by rw [List.length_append, numB_length]; omega
  have HD := hide hd
  obtain ⟨bo, cap, e, _⟩ := hs
  subst e
  clear hp HA hfit hd
  generalize A ++ numB B.length 2 = C at *
  go_enter Try.func51, Try.ntmps51
  go_wp2_with fail
  refine HN.out.mono ?_
  rintro e w1 ⟨u, rfl, hP1, hk1, hm1⟩
  have hc1 := hP1.1.cell 0
  simp at hc1
  have HP1 := hide hP1
  clear hP1
  go_wp2_with (with_reducible refine stop_append2 24 24 ?_)
  refine hide ?_
  obtain ⟨v2, w2, hr2, ho2, hk2, hm2⟩ := append_src HP1.out.2 (HD.out _ hk1) (by omega) (Nat.zero_le _) 24
  refine wpList_run rfl (r_append25 rfl rfl hr2) ?_
  obtain ⟨bo2, c2, e, _⟩ := ho2.src
  subst e
  obtain ⟨hP3, hk3, hm3⟩ := HP1.out.stored ho2 hk2 hm2
  have hS2 : Blk w2 p [u] 66 := hk2.blk HP1.out.1 (fun e => HP1.out.2.blk_ne HP1.out.1 (by decide) e)
  have hc2 := hS2.cell 0
  have hf2 := hS2.frozen 0
  simp at hc2
  clear hr2 ho2 hk2 hm2
  have hkF := penS_trans hk1 hm1 hk3
  have hmF := hm1.trans hm3 hk1.size
  have HP3 := hide hP3
  clear hP3 hk3 hm3 hS2
  generalize (C ++ B).length = q at *
  go_wp2
  go_ret
  exact ⟨_, rfl, by rw [← HT.out]; exact HP3.out, hkF, hmF⟩
theorem text_pn (w0 w : World) (p : Nat) (A : List Nat) (hp : Pn w0 w p A) (hl : A.length ≤ 80000000) (vb : Value) (B : List Nat) (hs : Src w0 vb B) (hB : B.length ≤ 65535) :
    Calls Try.prog 51 #[.pointer (some ⟨p, 0, none⟩), vb] w fun e w' => e = .returned (.bool true) ∧ Pn w0 w' p (A ++ textB B) := by
  obtain ⟨h1, h2, v, h3, h4⟩ := hp
  refine (text_at w p v A h3 hl vb B (hs.kept h2) (fun w' hk => hs.kept (h2.trans hk (fun i hi hs => by
    rcases hs with rfl | hs
    · omega
    · have := h4 i hs; omega))) hB).mono ?_
  rintro e w' ⟨v', rfl, hp, hk, hm⟩
  exact ⟨rfl, Pn.of h1 h2 h4 hp hk hm⟩

end Go.Proofs.Ytapoagpkjngjpaa
