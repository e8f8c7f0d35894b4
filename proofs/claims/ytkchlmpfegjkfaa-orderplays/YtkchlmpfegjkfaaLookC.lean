/-
  The closures that 'look' hands to the iterators.
-/
import Derived.Test.YtkchlmpfegjkfaaCount
import Derived.Test.YtkchlmpfegjkfaaRefF
import Derived.Laws.StructEq
namespace Go.Proofs.Ytkchlmpfegjkfaa
open Go.RowKit Go.Shelf
set_option linter.unusedSimpArgs false
set_option linter.unusedVariables false

theorem Try.guard39 : Try.prog.eqGuardType Try.prog.depth 39 = false := by kernel_rfl
theorem eql39 (k : Int) (v : ByteArray) (w : World) : (binOp .eql 39 (.agg #[.int .i64 k, .string v]) (.agg #[.int .i64 k, .string v])).run Try.prog w = .ok (.bool true) w := by
  have u3 := Try.underlying3
  have u9 := Try.underlying9
  have hS : Try.prog.underlying 39 = some (.struct (Try.prog.fieldsOf 39)) := by kernel_rfl
  have hp : Try.prog.stoodInHeld 39 = false := by kernel_rfl
  rw [run_eql_struct, show (10000 : Nat) = 9999 + 1 from rfl, run_equalIn_agg w 9999 39 _ _ hS hp]
  simp only [Program.fieldsOf, Try.underlying39]
  go_simp
theorem bld39 (k : Int) (v : ByteArray) (w : World) : (Instr.build 39 #[(0, .int .i64 k), (1, .string v)]).run Try.prog w = .ok (.agg #[.int .i64 k, .string v]) w :=
  run_build w 39 _ _ (by kernel_rfl)

/-- What a closure of 'look' reads: the list, and the operation. -/
structure LookR (W : World) (Bl Bo : Nat) (lv : Value) (l : List EntI) (oc : List Value) : Prop where
  bl : Blk W Bl [lv] 26
  own : OwnR W lv l
  bo : Blk W Bo oc 28
theorem LookR.kept {S : Nat → Prop} {W W' : World} {Bl Bo : Nat} {lv : Value} {l : List EntI} {oc : List Value} (h : LookR W Bl Bo lv l oc) (hk : Kept S W W') (h1 : ¬ S Bl) (h2 : ¬ S Bo) (h3 : ∀ k, lv.ownBlock = some k → ¬ S k) : LookR W' Bl Bo lv l oc :=
  ⟨hk.blk h.bl h1, h.own.kept hk h3, hk.blk h.bo h2⟩

set_option maxRecDepth 100000 in
set_option maxHeartbeats 2000000 in
theorem c32 (W : World) (Bg Bi Bl Bo : Nat) (lv : Value) (l : List EntI) (kd ky stop : Int) (va : ByteArray) (i : Nat) (x : EntI) (hg : Blk W Bg [.bool true] 4) (hi : Blk W Bi [.int .i64 (i : Nat)] 3) (hr : LookR W Bl Bo lv l [.int .i64 kd, .int .i64 ky, .int .i64 stop, .string va]) (hl : l.length ≤ 100000) (hx : l[i]? = some x) :
    Calls Try.prog 32 #[.int .i64 x.1, .string x.2, .pointer (some ⟨Bg, 0, none⟩), .pointer (some ⟨Bi, 0, none⟩), .pointer (some ⟨Bl, 0, none⟩), .pointer (some ⟨Bo, 0, none⟩)] W fun e w' =>
      e = .returned (.bool (!decide (((i + 1 : Nat) : Int) = stop))) ∧ Blk w' Bg [.bool true] 4 ∧ Blk w' Bi [.int .i64 (i + 1 : Nat)] 3 ∧ Kept (fun k => k = Bi ∨ k = Bg) W w' := by
  obtain ⟨hil, hxe⟩ := List.getElem?_eq_some_iff.1 hx
  have hgi : Bg ≠ Bi := hg.ne hi (by decide)
  rcases ownsRow_blk hr.own with ⟨_, h0, _⟩ | ⟨g, cap, C, rfl, hb, hnc, hcm, hC⟩
  · omega
  have hgB : ∀ b L t, Blk W b L t → t ≠ 39 → g ≠ b := fun b L t h1 h2 e => h2 (by subst e; exact (h1.same hb).2)
  have c0 : W.cell? ⟨Bg, 0, none⟩ = some (.bool true) := hg.cell 0
  have f0 : W.frozen? ⟨Bg, 0, none⟩ = false := hg.frozen 0
  have c1 : W.cell? ⟨Bi, 0, none⟩ = some (.int .i64 (i : Nat)) := hi.cell 0
  have c2 : W.cell? ⟨Bl, 0, none⟩ = some (.slice (some ⟨g, 0, none⟩) l.length cap) := hr.bl.cell 0
  have c3 : W.cell? ⟨g, i * 2, none⟩ = some (.int .i64 x.1) := by
    rw [hb.cell, List.getElem?_append_left (by rw [encE_length]; omega), encE_key l i hil, hxe]
  have c4 : W.cell? ⟨g, i * 2 + 1, none⟩ = some (.string x.2) := by
    rw [hb.cell, List.getElem?_append_left (by rw [encE_length]; omega), encE_val l i hil, hxe]
  have f1 : W.frozen? ⟨Bi, 0, none⟩ = false := hi.frozen 0
  have c5 : W.cell? ⟨Bo, 2, none⟩ = some (.int .i64 stop) := hr.bo.cell 2
  have hbd := bld39 x.1 x.2 W
  have heq := eql39 x.1 x.2 W
  have hgd := Try.guard39
  have hli : (i : Int) < (l.length : Int) := by omega
  have HI := hide hi
  have HG := hide hg
  have HBo := hide hr.bo
  have Hgi := hide hgi
  have hIo : Bo ≠ Bi := hr.bo.ne hi (by decide)
  have hGo : Bo ≠ Bg := hr.bo.ne hg (by decide)
  unfold maxLen at hcm
  obtain ⟨k, v⟩ := x
  simp only at c3 c4 hbd heq ⊢
  have hst : (((i : Int) + 1) != stop) = !decide (((i + 1 : Nat) : Int) = stop) := by
    rw [Bool.eq_iff_iff]
    simp
  have hfin : ∀ w', w' = (W.setCell ⟨Bg, 0, none⟩ (.bool true)).setCell ⟨Bi, 0, none⟩ (.int .i64 ((i : Int) + 1)) → Blk w' Bg [.bool true] 4 ∧ Blk w' Bi [.int .i64 (i + 1 : Nat)] 3 ∧ Kept (fun k => k = Bi ∨ k = Bg) W w' := by
    rintro w' rfl
    have k1 := Kept.setCell (S := fun k => k = Bg) W ⟨Bg, 0, none⟩ (.bool true) rfl
    have k2 := Kept.setCell (S := fun k => k = Bi) (W.setCell ⟨Bg, 0, none⟩ (.bool true)) ⟨Bi, 0, none⟩ (.int .i64 ((i : Int) + 1)) rfl
    refine ⟨k2.blk (hg.setCell 0 (.bool true)) hgi, ?_, (k1.mono (fun _ _ h => .inr h)).trans k2 (fun _ _ h => .inl h)⟩
    have h3 := (k1.blk hi (fun e => hgi e.symm)).setCell 0 (.int .i64 ((i : Int) + 1))
    simpa using h3
  have HSt := hide hst
  have HFin := hide hfin
  clear hb hC hr hx hxe hgB hst hfin
  go_enter Try.func32, Try.ntmps32
  go_wp2
  go_ret
  exact ⟨by rw [← HSt.out]; rfl, HFin.out _ rfl⟩

set_option maxRecDepth 100000 in
set_option maxHeartbeats 2000000 in
theorem c34 (W : World) (Bg Bi Bl Bo : Nat) (lv : Value) (l : List EntI) (kd ky stop : Int) (va : ByteArray) (i : Nat) (x : EntI) (hg : Blk W Bg [.bool true] 4) (hi : Blk W Bi [.int .i64 (i + 1 : Nat)] 3) (hr : LookR W Bl Bo lv l [.int .i64 kd, .int .i64 ky, .int .i64 stop, .string va]) (hl : l.length ≤ 100000) (hx : l[i]? = some x) :
    Calls Try.prog 34 #[.int .i64 x.1, .string x.2, .pointer (some ⟨Bi, 0, none⟩), .pointer (some ⟨Bg, 0, none⟩), .pointer (some ⟨Bl, 0, none⟩), .pointer (some ⟨Bo, 0, none⟩)] W fun e w' =>
      e = .returned (.bool (!decide (((l.length - i : Nat) : Int) = stop))) ∧ Blk w' Bg [.bool true] 4 ∧ Blk w' Bi [.int .i64 (i : Nat)] 3 ∧ Kept (fun k => k = Bi ∨ k = Bg) W w' := by
  obtain ⟨hil, hxe⟩ := List.getElem?_eq_some_iff.1 hx
  have hgi : Bg ≠ Bi := hg.ne hi (by decide)
  rcases ownsRow_blk hr.own with ⟨_, h0, _⟩ | ⟨g, cap, C, rfl, hb, hnc, hcm, hC⟩
  · omega
  have c0 : W.cell? ⟨Bg, 0, none⟩ = some (.bool true) := hg.cell 0
  have f0 : W.frozen? ⟨Bg, 0, none⟩ = false := hg.frozen 0
  have c1 : W.cell? ⟨Bi, 0, none⟩ = some (.int .i64 ((i : Int) + 1)) := hi.cell 0
  have c2 : W.cell? ⟨Bl, 0, none⟩ = some (.slice (some ⟨g, 0, none⟩) l.length cap) := hr.bl.cell 0
  have c3 : W.cell? ⟨g, i * 2, none⟩ = some (.int .i64 x.1) := by
    rw [hb.cell, List.getElem?_append_left (by rw [encE_length]; omega), encE_key l i hil, hxe]
  have c4 : W.cell? ⟨g, i * 2 + 1, none⟩ = some (.string x.2) := by
    rw [hb.cell, List.getElem?_append_left (by rw [encE_length]; omega), encE_val l i hil, hxe]
  have f1 : W.frozen? ⟨Bi, 0, none⟩ = false := hi.frozen 0
  have c5 : W.cell? ⟨Bo, 2, none⟩ = some (.int .i64 stop) := hr.bo.cell 2
  have hbd := bld39 x.1 x.2
  have heq := eql39 x.1 x.2
  have hgd := Try.guard39
  have hli : (i : Int) < (l.length : Int) := by omega
  have hIo : Bo ≠ Bi := hr.bo.ne hi (by decide)
  have hGo : Bo ≠ Bg := hr.bo.ne hg (by decide)
  have hIl : Bl ≠ Bi := hr.bl.ne hi (by decide)
  have hGl : Bl ≠ Bg := hr.bl.ne hg (by decide)
  have hIg : g ≠ Bi := hb.ne hi (by decide)
  have hGg : g ≠ Bg := hb.ne hg (by decide)
  unfold maxLen at hcm
  obtain ⟨k, v⟩ := x
  simp only at c3 c4 hbd heq ⊢
  have hst : (((l.length : Int) - (i : Int)) != stop) = !decide (((l.length - i : Nat) : Int) = stop) := by
    rw [show ((l.length - i : Nat) : Int) = (l.length : Int) - (i : Int) by omega, Bool.eq_iff_iff]
    simp
  have hfin : ∀ w', w' = (W.setCell ⟨Bi, 0, none⟩ (.int .i64 (i : Int))).setCell ⟨Bg, 0, none⟩ (.bool true) → Blk w' Bg [.bool true] 4 ∧ Blk w' Bi [.int .i64 (i : Nat)] 3 ∧ Kept (fun k => k = Bi ∨ k = Bg) W w' := by
    rintro w' rfl
    have k1 := Kept.setCell (S := fun k => k = Bi) W ⟨Bi, 0, none⟩ (.int .i64 (i : Int)) rfl
    have k2 := Kept.setCell (S := fun k => k = Bg) (W.setCell ⟨Bi, 0, none⟩ (.int .i64 (i : Int))) ⟨Bg, 0, none⟩ (.bool true) rfl
    exact ⟨(k1.blk hg hgi).setCell 0 (.bool true), k2.blk (hi.setCell 0 (.int .i64 (i : Int))) (fun e => hgi e.symm), (k1.mono (fun _ _ h => .inl h)).trans k2 (fun _ _ h => .inr h)⟩
  have HSt := hide hst
  have HFin := hide hfin
  clear hb hC hr hx hxe hst hfin
  go_enter Try.func34, Try.ntmps34
  go_wp2
  go_ret
  exact ⟨by rw [← HSt.out]; rfl, HFin.out _ rfl⟩

set_option maxRecDepth 100000 in
set_option maxHeartbeats 2000000 in
theorem c36 (W : World) (Bg Bi Bl Bn Bo : Nat) (lv : Value) (l : List EntI) (kd ky stop : Int) (va : ByteArray) (i n : Nat) (x : EntI) (hg : Blk W Bg [.bool true] 4) (hi : Blk W Bi [.int .i64 (i : Nat)] 3) (hn : Blk W Bn [.int .i64 (n : Nat)] 3) (hin : Bi ≠ Bn) (hr : LookR W Bl Bo lv l [.int .i64 kd, .int .i64 ky, .int .i64 stop, .string va]) (hl : l.length ≤ 100000) (hnl : n ≤ 100000) (hx : l[i]? = some x) :
    Calls Try.prog 36 #[.int .i64 x.1, .string x.2, .pointer (some ⟨Bg, 0, none⟩), .pointer (some ⟨Bi, 0, none⟩), .pointer (some ⟨Bl, 0, none⟩), .pointer (some ⟨Bn, 0, none⟩), .pointer (some ⟨Bo, 0, none⟩)] W fun e w' =>
      e = .returned (.bool (!decide (((n + 1 : Nat) : Int) = stop))) ∧ Blk w' Bg [.bool true] 4 ∧ Blk w' Bi [.int .i64 (i + 1 : Nat)] 3 ∧ Blk w' Bn [.int .i64 (n + 1 : Nat)] 3 ∧ Kept (fun k => k = Bi ∨ k = Bg ∨ k = Bn) W w' := by
  obtain ⟨hil, hxe⟩ := List.getElem?_eq_some_iff.1 hx
  have hgi : Bg ≠ Bi := hg.ne hi (by decide)
  have hgn : Bg ≠ Bn := hg.ne hn (by decide)
  rcases ownsRow_blk hr.own with ⟨_, h0, _⟩ | ⟨g, cap, C, rfl, hb, hnc, hcm, hC⟩
  · omega
  have c0 : W.cell? ⟨Bg, 0, none⟩ = some (.bool true) := hg.cell 0
  have f0 : W.frozen? ⟨Bg, 0, none⟩ = false := hg.frozen 0
  have c1 : W.cell? ⟨Bi, 0, none⟩ = some (.int .i64 (i : Nat)) := hi.cell 0
  have f1 : W.frozen? ⟨Bi, 0, none⟩ = false := hi.frozen 0
  have c6 : W.cell? ⟨Bn, 0, none⟩ = some (.int .i64 (n : Nat)) := hn.cell 0
  have f6 : W.frozen? ⟨Bn, 0, none⟩ = false := hn.frozen 0
  have c2 : W.cell? ⟨Bl, 0, none⟩ = some (.slice (some ⟨g, 0, none⟩) l.length cap) := hr.bl.cell 0
  have c3 : W.cell? ⟨g, i * 2, none⟩ = some (.int .i64 x.1) := by
    rw [hb.cell, List.getElem?_append_left (by rw [encE_length]; omega), encE_key l i hil, hxe]
  have c4 : W.cell? ⟨g, i * 2 + 1, none⟩ = some (.string x.2) := by
    rw [hb.cell, List.getElem?_append_left (by rw [encE_length]; omega), encE_val l i hil, hxe]
  have c5 : W.cell? ⟨Bo, 2, none⟩ = some (.int .i64 stop) := hr.bo.cell 2
  have hbd := bld39 x.1 x.2
  have heq := eql39 x.1 x.2
  have hgd := Try.guard39
  have hli : (i : Int) < (l.length : Int) := by omega
  have hIo : Bo ≠ Bi := hr.bo.ne hi (by decide)
  have hGo : Bo ≠ Bg := hr.bo.ne hg (by decide)
  have hNo : Bo ≠ Bn := hr.bo.ne hn (by decide)
  have hni : Bn ≠ Bi := fun e => hin e.symm
  have hng : Bn ≠ Bg := fun e => hgn e.symm
  unfold maxLen at hcm
  obtain ⟨k, v⟩ := x
  simp only at c3 c4 hbd heq ⊢
  have hst : (((n : Int) + 1) != stop) = !decide (((n + 1 : Nat) : Int) = stop) := by
    rw [Bool.eq_iff_iff]
    simp
  have hfin : ∀ w', w' = ((W.setCell ⟨Bg, 0, none⟩ (.bool true)).setCell ⟨Bi, 0, none⟩ (.int .i64 ((i : Int) + 1))).setCell ⟨Bn, 0, none⟩ (.int .i64 ((n : Int) + 1)) → Blk w' Bg [.bool true] 4 ∧ Blk w' Bi [.int .i64 (i + 1 : Nat)] 3 ∧ Blk w' Bn [.int .i64 (n + 1 : Nat)] 3 ∧ Kept (fun k => k = Bi ∨ k = Bg ∨ k = Bn) W w' := by
    rintro w' rfl
    have k1 := Kept.setCell (S := fun k => k = Bg) W ⟨Bg, 0, none⟩ (.bool true) rfl
    have k2 := Kept.setCell (S := fun k => k = Bi) (W.setCell ⟨Bg, 0, none⟩ (.bool true)) ⟨Bi, 0, none⟩ (.int .i64 ((i : Int) + 1)) rfl
    have k3 := Kept.setCell (S := fun k => k = Bn) ((W.setCell ⟨Bg, 0, none⟩ (.bool true)).setCell ⟨Bi, 0, none⟩ (.int .i64 ((i : Int) + 1))) ⟨Bn, 0, none⟩ (.int .i64 ((n : Int) + 1)) rfl
    refine ⟨k3.blk (k2.blk (hg.setCell 0 (.bool true)) hgi) hgn, k3.blk ?_ hin, ?_, ((k1.mono (fun _ _ h => .inr (.inl h))).trans k2 (fun _ _ h => .inl h)).trans k3 (fun _ _ h => .inr (.inr h))⟩
    · have h3 := (k1.blk hi (fun e => hgi e.symm)).setCell 0 (.int .i64 ((i : Int) + 1))
      simpa using h3
    · have h3 := (k2.blk (k1.blk hn hng) hni).setCell 0 (.int .i64 ((n : Int) + 1))
      simpa using h3
  have HSt := hide hst
  have HFin := hide hfin
  clear hb hC hr hx hxe hst hfin
  go_enter Try.func36, Try.ntmps36
  go_wp2
  go_ret
  exact ⟨by rw [← HSt.out]; rfl, HFin.out _ rfl⟩

end Go.Proofs.Ytkchlmpfegjkfaa
