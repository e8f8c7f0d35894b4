/-
  dev.Turn.
-/
import Derived.Test.YtjepiaacaemkhaaRefX
namespace Go.Proofs.Ytjepiaacaemkhaa
open Go.RowKit Go.Shelf
set_option linter.unusedSimpArgs false
set_option linter.unusedVariables false

/-- A byte with bit j turned. -/
def turnN (x : Int) (j : Nat) : Int := IntKind.u8.wrap ((BitVec.ofInt IntKind.u8.bits x ^^^ BitVec.ofInt IntKind.u8.bits (IntKind.u8.wrap (1 * 2 ^ j))).toNat)
def turnB (v : Value) (j : Nat) : Value := .int .u8 (turnN (numOf v) j)
theorem turnB_byte (v : Value) (j : Nat) : isByte (turnB v j) := by
  refine ⟨_, rfl, ?_, ?_⟩
  · unfold turnN; rw [IntKind.wrap_u8]; omega
  · unfold turnN; rw [IntKind.wrap_u8]; omega
def DS.turned (s : DS) (a b : Nat) : DS := { s with st := s.st.set (64 * a + b / 8) (turnB (s.st.getD (64 * a + b / 8) (.int .u8 0)) (b % 8)) }

section
variable {ρ : Operand → Value} {w : World} {dst : Option Tmp} {ty : TypeId} {pos : String} {aft : Array Edge} {gd : Option (Nat × Bool)}
theorem r_shl {x y : Operand} {tb : TypeId} {k : IntKind} {j : Nat} (hx : ρ x = .int .u8 1) (hy : ρ y = .int k j) (hj : j ≤ 7) :
    (execOp ρ ⟨dst, .binOp .shl 5 x y tb, ty, pos, aft, gd⟩).run Try.prog w = .ok (.value (.int .u8 (IntKind.u8.wrap (1 * 2 ^ j)))) w := by
  have hn : ¬ ((j : Int) < 0) := by omega
  have hm : min ((j : Int).toNat) IntKind.u8.bits = j := by simp [IntKind.bits]; omega
  simp [execOp, eqGuard, binOp, Op.shift, hx, hy, hn, hm]
theorem r_xor {x y : Operand} {tb : TypeId} {p q : Int} (hx : ρ x = .int .u8 p) (hy : ρ y = .int .u8 q) :
    (execOp ρ ⟨dst, .binOp .xor 5 x y tb, ty, pos, aft, gd⟩).run Try.prog w = .ok (.value (.int .u8 (IntKind.u8.wrap ((BitVec.ofInt IntKind.u8.bits p ^^^ BitVec.ofInt IntKind.u8.bits q).toNat)))) w := by
  simp [execOp, eqGuard, binOp, Op.intBits, hx, hy]
theorem r_xorT {x y : Operand} {tb : TypeId} {p : Int} {j : Nat} (hx : ρ x = .int .u8 p) (hy : ρ y = .int .u8 (IntKind.u8.wrap (1 * 2 ^ j))) :
    (execOp ρ ⟨dst, .binOp .xor 5 x y tb, ty, pos, aft, gd⟩).run Try.prog w = .ok (.value (.int .u8 (turnN p j))) w := r_xor hx hy
end

set_option maxHeartbeats 1000000 in
theorem turn_nil (w : World) (a b : Int) : Calls Try.prog 13 #[.pointer none, .int .i64 a, .int .i64 b] w fun e w' => e = .returned (.int .i64 1) ∧ w = w' := by
  go_enter Try.func13, Try.ntmps13
  go_wp2
  go_ret
  exact ⟨rfl, rfl⟩

set_option maxHeartbeats 1000000 in
theorem turn_bad (w : World) (b n : Nat) (s : DS) (F : Nat → Prop) (h : DevAt w b n s F) (a m : Int) (ha : a ≤ 9223372036854775807) (hbad : hasB n a 1 = false ∨ m < 0 ∨ 511 < m) :
    Calls Try.prog 13 #[.pointer (some ⟨b, 0, none⟩), .int .i64 a, .int .i64 m] w fun e w' => e = .returned (.int .i64 11) ∧ w = w' := by
  obtain ⟨bs, wv, hd, hf⟩ := h
  have HH := hide (has_at w b bs n wv s hd a 1 ha)
  clear hd hf
  by_cases h0 : hasB n a 1 = false
  · have HN := hide h0
    clear h0 hbad
    go_enter Try.func13, Try.ntmps13
    go_wp2_with (go_at_call 26; refine HH.out.mono ?_; rintro e w1 ⟨rfl, rfl⟩; rw [HN.out])
    go_ret
    exact ⟨rfl, rfl⟩
  · have HN : Hid (hasB n a 1 = true) := hide (by simpa using h0)
    have hm : m < 0 ∨ 511 < m := hbad.resolve_left h0
    clear h0 hbad
    by_cases h1 : m < 0
    · clear hm
      go_enter Try.func13, Try.ntmps13
      go_wp2_with (go_at_call 26; refine HH.out.mono ?_; rintro e w1 ⟨rfl, rfl⟩; rw [HN.out])
      go_ret
      exact ⟨rfl, rfl⟩
    · have h2 : 512 ≤ m := by omega
      clear hm
      go_enter Try.func13, Try.ntmps13
      go_wp2_with (go_at_call 26; refine HH.out.mono ?_; rintro e w1 ⟨rfl, rfl⟩; rw [HN.out])
      go_ret
      exact ⟨rfl, rfl⟩

set_option maxHeartbeats 1000000 in
theorem turn_ok (w : World) (b n : Nat) (s : DS) (F : Nat → Prop) (h : DevAt w b n s F) (a m : Nat) (ha : a < n) (hm : m < 512) :
    Calls Try.prog 13 #[.pointer (some ⟨b, 0, none⟩), .int .i64 a, .int .i64 m] w fun e w' => e = .returned (.int .i64 0) ∧ DevStep w w' b n (s.turned a m) F := by
  obtain ⟨bs, wv, hd, hf⟩ := h
  have HH := hide (has_at w b bs n wv s hd a 1 (by have := hd.n2; omega))
  have HN := hide (hasB_nat n a 1 (by omega))
  have HD := hide hd
  have HF := hide hf
  have hn2 := hd.n2
  obtain ⟨p, hp⟩ : ∃ p, p = m / 8 := ⟨_, rfl⟩
  obtain ⟨r, hr⟩ : ∃ r, r = m % 8 := ⟨_, rfl⟩
  have HS : Hid (s.turned a m = { s with st := s.st.set (64 * a + p) (turnB (s.st.getD (64 * a + p) (.int .u8 0)) r) }) := hide (by rw [hp, hr]; rfl)
  have hq : ((m : Int)) / 8 = (p : Int) := by omega
  have hrr : ((m : Int)) % 8 = (r : Int) := by omega
  have hrt : ((m : Int)).tmod 8 = (r : Int) := by rw [Int.tmod_eq_emod_of_nonneg (by omega)]; exact hrr
  have hp64 : p < 64 := by omega
  have hr8 : r ≤ 7 := by omega
  clear hp hr
  obtain ⟨x, hx⟩ : ∃ x, s.st[64 * a + p]? = some x := ⟨_, List.getElem?_eq_getElem (by rw [hd.hl]; omega)⟩
  obtain ⟨q, rfl, _⟩ := hd.hB x (List.mem_of_getElem? hx)
  have HX := hide hx
  clear hd hf hx
  go_enter Try.func13, Try.ntmps13
  go_wp2_with (go_at_call 26; refine HH.out.mono ?_; rintro e w1 ⟨rfl, rfl⟩; rw [show ((1 : Nat) : Int) = 1 from rfl] at HN; rw [HN.out])
  refine region_tail 16 Try.mixed (by kernel_rfl) ?_
  intro w1 hk1 hz1
  have Hz1 := hide hz1
  clear hz1
  simp only [List.take_succ_cons, List.take_zero, List.drop_succ_cons, List.drop_zero]
  have hd1 := HD.out.kept hk1 (fun _ _ h => h)
  have h4 : w1.cell? ⟨b, 0, none⟩ = some (.slice (some ⟨bs, 0, none⟩) n n) := hd1.hb.cell 0
  have h5 : w1.cell? ⟨bs, 64 * a + p, none⟩ = some (.int .u8 q) := (hd1.hs.cell _).trans HX.out
  have HD1 := hide hd1
  clear hd1
  still_step
  still_step
  still_step
  still_step
  still_step
  still_step
  still_step
  still_step
  have hwp : IntKind.i64.wrap (p : Int) = p := by rw [IntKind.wrap_i64]; omega
  have hpI : (p : Int) < 64 := by omega
  rw [Nat.mul_comm 64 a] at h5
  still_step
  still_step
  still_step
  still_step
  refine wpStill_run rfl (r_shl (j := r) (k := .i64) rfl rfl hr8) ?_
  refine wpStill_run rfl (r_xorT (p := q) (j := r) rfl rfl) ?_
  still_step
  still_step
  refine wpStill_nil ?_
  have f5 := HD1.out.hs.frozen (a * 64 + p)
  go_wp2
  go_ret
  refine ⟨rfl, ?_⟩
  rw [HS.out]
  obtain ⟨ap1, ap2, ap3⟩ := HD1.out.apart
  have hkS := Kept.setCell (S := fun k => k = bs) w1 ⟨bs, a * 64 + p, none⟩ (.int .u8 (turnN q r)) rfl
  have hv : turnB (s.st.getD (64 * a + p) (.int .u8 0)) r = .int .u8 (turnN q r) := by
    rw [List.getD_eq_getElem?_getD, HX.out]; rfl
  rw [hv]
  have hst : Blk (w1.setCell ⟨bs, a * 64 + p, none⟩ (.int .u8 (turnN q r))) bs (s.st.set (64 * a + p) (.int .u8 (turnN q r))) 70 := by
    have := HD1.out.hs.setCell (a * 64 + p) (.int .u8 (turnN q r))
    rw [Nat.mul_comm a 64] at this ⊢
    exact this
  have hd2 : DevIs (w1.setCell ⟨bs, a * 64 + p, none⟩ (.int .u8 (turnN q r))) b bs wv n { s with st := s.st.set (64 * a + p) (.int .u8 (turnN q r)) } :=
    ⟨HD1.out.n1, HD1.out.n2, hkS.blk HD1.out.hb (fun e => ap1 e), hst, ownsRow_kept HD1.out.hw hkS (fun k e e2 => ap3 (by rw [e, e2])), by simpa using HD1.out.hl, fun v hv => by
      rcases List.mem_or_eq_of_mem_set hv with h | h
      · exact HD1.out.hB v h
      · rw [h]; exact turnB_byte (.int .u8 q) r, HD1.out.ok, HD1.out.l1, HD1.out.l2⟩
  exact DevAt.step_b HF.out ((hk1.mono (fun _ _ h => h.elim)).trans (hkS.mono (fun k _ e => (HF.out k).2 (.inr (.inl e)))) (fun _ _ h => h)) wv hd2 (fun k e => .inl ((HF.out k).2 (.inr (.inr e))))

end Go.Proofs.Ytjepiaacaemkhaa
