/-
  (*Dev).Write where it is refused.
-/
import Derived.Test.YtapoagpkjngjpaaDWriteB
namespace Go.Proofs.Ytapoagpkjngjpaa.D
open Go.RowKit Go.Shelf
set_option linter.unusedSimpArgs false
set_option linter.unusedVariables false
set_option maxRecDepth 100000

/-- The bytes B, as a slice that lies outside S. -/
def srcIs (w : World) (v : Value) (B : List Value) (S : Nat → Prop) : Prop :=
  ∃ ao cap, v = .slice ao B.length cap ∧ B.length ≤ cap ∧ cap ≤ maxLen ∧ (∀ x ∈ B, isByte x) ∧ (0 < B.length → ∃ sb so, ao = some ⟨sb, so, none⟩ ∧ Cells w sb so B ∧ ¬ S sb)

theorem _root_.Go.Proofs.Ytapoagpkjngjpaa.Cells.lt {w : World} {b so : Nat} {M : List Value} (h : Cells w b so M) (h0 : 0 < M.length) : b < w.heap.size :=
  World.block_lt_of_cell? w _ (h 0 _ (List.getElem?_eq_getElem h0))

theorem srcIs.kept {w w' : World} {v : Value} {B : List Value} {S T : Nat → Prop} (h : srcIs w v B S) (hk : Kept T w w') (hT : ∀ k, k < w.heap.size → T k → S k) : srcIs w' v B S := by
  obtain ⟨ao, cap, h1, h2, h3, h4, h5⟩ := h
  refine ⟨ao, cap, h1, h2, h3, h4, fun h0 => ?_⟩
  obtain ⟨sb, so, e1, e2, e3⟩ := h5 h0
  exact ⟨sb, so, e1, hk.cells e2 (fun t => e3 (hT sb (e2.lt h0) t)), e3⟩

/-- What a refused Write answers. -/
def DS.errW (n : Nat) (s : DS) (a : Int) (B : List Value) : Int :=
  if s.off then 10 else if B.length % 64 ≠ 0 then 2 else if hasB n a ((B.length / 64 : Nat) : Int) then s.errS else 11

theorem _root_.Go.Proofs.Ytapoagpkjngjpaa.Kept.alloc2 (S : Nat → Prop) (w : World) (o o' : Obj) : Kept S w ((w.alloc o).alloc o') := (Kept.alloc S w o).trans (Kept.alloc S _ o') (fun _ _ h => h)

set_option maxHeartbeats 1000000 in
theorem write_off (w : World) (b n : Nat) (s : DS) (F : Nat → Prop) (h : DevAt w b n s F) (a : Int) (v : Value) (ho : s.off = true) :
    Calls Try.prog 33 #[.pointer (some ⟨b, 0, none⟩), .int .i64 a, v] w fun e w' => e = .returned (.int .i64 10) ∧ DevStep w w' b n s F := by
  have hd2 := h.kept (w' := (w.alloc (.cells #[.pointer (some ⟨b, 0, none⟩)] 37)).alloc (.cells #[.int .i64 a] 3)) (Kept.alloc2 (fun _ => False) w _ _) (fun _ _ h => h)
  have hd3 := hd2
  obtain ⟨bs, wv, hd, hf⟩ := hd2
  have HR := hide (ready_at _ b bs n wv s hd)
  have HO := hide ho
  have HD := hide hd3
  clear hd hf ho hd3
  go_enter Try.func33, Try.ntmps33
  go_wp2_with (go_at_call 54; refine HR.out.mono ?_; rintro e w' ⟨rfl, rfl⟩; rw [HO.out]; simp only [if_true])
  go_ret
  exact ⟨rfl, Kept.alloc2 F w _ _, F, HD.out, fun _ h => .inl h⟩

set_option maxHeartbeats 1000000 in
theorem write_arg (w : World) (b n : Nat) (s : DS) (F : Nat → Prop) (h : DevAt w b n s F) (a : Int) (ao : Option Addr) (len cap : Nat) (hl : len ≤ 9223372036854775807) (ho : s.off = false) (hm : len % 64 ≠ 0) :
    Calls Try.prog 33 #[.pointer (some ⟨b, 0, none⟩), .int .i64 a, .slice ao len cap] w fun e w' => e = .returned (.int .i64 2) ∧ DevStep w w' b n s F := by
  have hd2 := h.kept (w' := (w.alloc (.cells #[.pointer (some ⟨b, 0, none⟩)] 37)).alloc (.cells #[.int .i64 a] 3)) (Kept.alloc2 (fun _ => False) w _ _) (fun _ _ h => h)
  have hd3 := hd2
  obtain ⟨bs, wv, hd, hf⟩ := hd2
  have HR := hide (ready_at _ b bs n wv s hd)
  have HO := hide ho
  have HD := hide hd3
  have hmi : ((len : Int) % 64 != 0) = true := by rw [bne_iff_ne]; omega
  clear hd hf ho hd3 hm
  go_enter Try.func33, Try.ntmps33
  go_wp2_with (go_at_call 54; refine HR.out.mono ?_; rintro e w' ⟨rfl, rfl⟩; rw [HO.out]; simp only [Bool.false_eq_true, if_false])
  go_ret
  exact ⟨rfl, Kept.alloc2 F w _ _, F, HD.out, fun _ h => .inl h⟩

set_option maxHeartbeats 1000000 in
theorem write_range (w : World) (b n : Nat) (s : DS) (F : Nat → Prop) (h : DevAt w b n s F) (a : Int) (ha : a ≤ 9223372036854775807) (ao : Option Addr) (m cap : Nat) (hl : 64 * m ≤ 9223372036854775807) (ho : s.off = false) (hh : hasB n a m = false) :
    Calls Try.prog 33 #[.pointer (some ⟨b, 0, none⟩), .int .i64 a, .slice ao (64 * m) cap] w fun e w' => e = .returned (.int .i64 11) ∧ DevStep w w' b n s F := by
  have hd2 := h.kept (w' := (w.alloc (.cells #[.pointer (some ⟨b, 0, none⟩)] 37)).alloc (.cells #[.int .i64 a] 3)) (Kept.alloc2 (fun _ => False) w _ _) (fun _ _ h => h)
  have hd3 := hd2
  obtain ⟨bs, wv, hd, hf⟩ := hd2
  have HR := hide (ready_at _ b bs n wv s hd)
  have HH := hide (has_at _ b bs n wv s hd a m ha)
  have HO := hide ho
  have HN := hide hh
  have HD := hide hd3
  have hmi : (((64 * m : Nat) : Int) % 64 != 0) = false := by rw [bne_eq_false_iff_eq]; omega
  have hmq : ((64 * m : Nat) : Int) / 64 = (m : Int) := by omega
  clear hd hf ho hd3 hh
  go_enter Try.func33, Try.ntmps33
  go_wp2_with (first
    | (go_at_call 54; refine HR.out.mono ?_; rintro e w' ⟨rfl, rfl⟩; rw [HO.out]; simp only [Bool.false_eq_true, if_false])
    | (go_at_call 55; refine HH.out.mono ?_; rintro e w' ⟨rfl, rfl⟩; rw [HN.out]))
  go_ret
  exact ⟨rfl, Kept.alloc2 F w _ _, F, HD.out, fun _ h => .inl h⟩

set_option maxHeartbeats 1000000 in
theorem write_limit (w : World) (b n : Nat) (s : DS) (F : Nat → Prop) (h : DevAt w b n s F) (a : Int) (ha : a ≤ 9223372036854775807) (ao : Option Addr) (m cap : Nat) (hl : 64 * m ≤ 9223372036854775807) (ho : s.off = false) (hh : hasB n a m = true) (hz : s.left = 0) (hc : s.calls < 4611686018427387904) :
    Calls Try.prog 33 #[.pointer (some ⟨b, 0, none⟩), .int .i64 a, .slice ao (64 * m) cap] w fun e w' => e = .returned (.int .i64 10) ∧ DevStep w w' b n s.spent F := by
  have hd2 := h.kept (w' := (w.alloc (.cells #[.pointer (some ⟨b, 0, none⟩)] 37)).alloc (.cells #[.int .i64 a] 3)) (Kept.alloc2 (fun _ => False) w _ _) (fun _ _ h => h)
  obtain ⟨bs, wv, hd, hf⟩ := hd2
  have HR := hide (ready_at _ b bs n wv s hd)
  have HH := hide (has_at _ b bs n wv s hd a m ha)
  have HSp := hide (spend_at _ b bs n wv s hd hc)
  have HE2 : Hid (s.errS = 10) := hide (by simp [DS.errS, hz])
  have HO := hide ho
  have HN := hide hh
  have HF := hide hf
  have hmi : (((64 * m : Nat) : Int) % 64 != 0) = false := by rw [bne_eq_false_iff_eq]; omega
  have hmq : ((64 * m : Nat) : Int) / 64 = (m : Int) := by omega
  clear hd hf ho hh hz
  go_enter Try.func33, Try.ntmps33
  go_wp2_with (first
    | (go_at_call 54; refine HR.out.mono ?_; rintro e w' ⟨rfl, rfl⟩; rw [HO.out]; simp only [Bool.false_eq_true, if_false])
    | (go_at_call 55; refine HH.out.mono ?_; rintro e w' ⟨rfl, rfl⟩; rw [HN.out])
    | (go_at_call 56; refine HSp.out.mono ?_; rintro e w1 ⟨rfl, hk1, hd1⟩; rw [HE2.out]))
  go_ret
  refine ⟨rfl, (Kept.alloc2 F w _ _).trans hk1 (fun k _ e => (HF.out k).2 (.inl e)), foot b bs wv, ⟨bs, wv, hd1, fun _ => Iff.rfl⟩, fun k hk => .inl ((HF.out k).2 hk)⟩

end Go.Proofs.Ytapoagpkjngjpaa.D
