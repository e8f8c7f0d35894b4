/-
  The walk of DevKeeps: it answers true, and touches nothing that was there.
-/
import Derived.Test.YtjepiaacaemkhaaEnds
namespace Go.Proofs.Ytjepiaacaemkhaa
open Go.RowKit Go.Shelf
set_option linter.unusedSimpArgs false
set_option linter.unusedVariables false

section
variable {ρ : Operand → Value} {w : World} {dst : Option Tmp} {ty : TypeId} {pos : String} {aft : Array Edge} {gd : Option (Nat × Bool)}
theorem r_slice2 {x lo hi : Operand} {b off len cap l h : Nat} {k1 k2 : IntKind} (hx : ρ x = .slice (some ⟨b, off, none⟩) len cap) (hlo : ρ lo = .int k1 l) (hhi : ρ hi = .int k2 h) (hlh : l ≤ h) (hh : h ≤ cap) (hc : l < cap) :
    (execOp ρ ⟨dst, .slice 28 x (some lo) (some hi) none, ty, pos, aft, gd⟩).run Try.prog w = .ok (.value (.slice (some ⟨b, off + l, none⟩) (h - l) (cap - l))) w := by
  obtain ⟨i5, hi5, hz5, hs5, hb5⟩ := info_parts Try.info5
  have h1 : ¬ cap = l := by omega
  simp [execOp, Instr.sliceAt, run_underlying Try.underlying28, Instr.slice, hx, hlo, hhi, Instr.sliceBounds, Instr.sliceBound, asIntOf, hlh, hh, sizeOf, typeInfo, hi5, hs5, h1, addr_add]
theorem r_slice1 {x lo : Operand} {b off len cap l : Nat} {k1 : IntKind} (hx : ρ x = .slice (some ⟨b, off, none⟩) len cap) (hlo : ρ lo = .int k1 l) (hlh : l ≤ len) (hc : l < cap) :
    (execOp ρ ⟨dst, .slice 28 x (some lo) none none, ty, pos, aft, gd⟩).run Try.prog w = .ok (.value (.slice (some ⟨b, off + l, none⟩) (len - l) (cap - l))) w := by
  obtain ⟨i5, hi5, hz5, hs5, hb5⟩ := info_parts Try.info5
  have h := run_slice_lo (P := Try.prog) (ρ := ρ) (w := w) (dst := dst) (ty := ty) (pos := pos) (aft := aft) (gd := gd) Try.underlying28 hi5 hx l hlo hlh hc
  rw [hs5, Nat.mul_one] at h
  exact h
end

/-- One more Write of A at sector 3, whatever the limit. -/
def wr1 (A : List Value) (s : DS) : DS := if s.off then s else if s.left = 0 then s.spent else s.written 3 A 1
def wrN (A : List Value) : Nat → DS → DS
  | 0, s => s
  | k + 1, s => wr1 A (wrN A k s)
theorem spent_le (s : DS) : s.spent.calls ≤ s.calls + 1 := by unfold DS.spent; split <;> simp
theorem wr1_le (A : List Value) (s : DS) : (wr1 A s).ws.length ≤ s.ws.length + 1 ∧ (wr1 A s).calls ≤ s.calls + 1 := by
  unfold wr1
  split
  · exact ⟨by omega, by omega⟩
  · split
    · exact ⟨by rw [s.spent_ws.1]; omega, spent_le s⟩
    · exact ⟨by simp [DS.written, secs], spent_le s⟩
theorem wrN_le (A : List Value) (s : DS) : ∀ k, (wrN A k s).ws.length ≤ s.ws.length + k ∧ (wrN A k s).calls ≤ s.calls + k
  | 0 => ⟨by simp [wrN], by simp [wrN]⟩
  | k + 1 => by
    obtain ⟨h1, h2⟩ := wrN_le A s k
    obtain ⟨h3, h4⟩ := wr1_le A (wrN A k s)
    exact ⟨by simp only [wrN]; omega, by simp only [wrN]; omega⟩

theorem Dv.write3 {w0 w : World} {b : Nat} {s : DS} {G : List (Nat × List Value × TypeId)} (h : Dv w0 w b 4 s G) (g cap : Nat) (A : List Value) (t : TypeId) (hg : (g, A, t) ∈ G) (hA : A.length = 64) (hAb : ∀ x ∈ A, isByte x) (hcap : 64 ≤ cap) (hc : s.calls < 1000000) (hlen : s.ws.length < 1000000) :
    Calls Try.prog 11 #[.pointer (some ⟨b, 0, none⟩), .int .i64 3, .slice (some ⟨g, 0, none⟩) 64 cap] w fun e w' => ∃ v, e = .returned v ∧ Dv w0 w' b 4 (wr1 A s) G := by
  unfold wr1
  cases ho : s.off
  · by_cases hz : s.left = 0
    · rw [if_neg (by simp), if_pos hz]
      refine (h.write_limit 3 1 cap (some ⟨g, 0, none⟩) (by decide) (by decide) (by decide) ho hz (by omega)).mono ?_
      rintro e w' ⟨rfl, h'⟩
      exact ⟨_, rfl, h'⟩
    · rw [if_neg (by simp), if_neg hz]
      refine (h.write 3 1 cap g 0 A A t hg (by rw [List.drop_zero]; exact List.take_of_length_le (by omega)) (by omega) hAb (by omega) (by decide) ho hz (by omega) (by omega)).mono ?_
      rintro e w' ⟨rfl, h'⟩
      exact ⟨_, rfl, h'⟩
  · rw [if_pos rfl]
    refine (h.write_off 3 _ ho).mono ?_
    rintro e w' ⟨rfl, h'⟩
    exact ⟨_, rfl, h'⟩

def k1 (A : List Value) : DS := (DS.new 4).written 1 A 1
def k2 (A : List Value) : DS := (k1 A).flushed
def k3 (A B : List Value) : DS := (k2 A).written 1 B 1
def k4 (A B : List Value) : DS := (k3 A B).written 2 B 1
def k5 (A B : List Value) (L : Int) : DS := { k4 A B with left := max L (-1) }
def k6 (A B : List Value) (L : Int) : DS := wrN A 4 (k5 A B L)
def k7 (A B : List Value) (L : Int) (keep : Bool) : DS := (k6 A B L).crashed [keep]

theorem k6_off (A B : List Value) (L : Int) (h : L = 0 ∨ L = 1 ∨ L = 2) : (k6 A B L).off = true := by
  rcases h with rfl | rfl | rfl <;> rfl
theorem k7_st (A B : List Value) (L : Int) (keep : Bool) (h : L = 0 ∨ L = 1 ∨ L = 2) : (k7 A B L keep).st = if keep then put (put (List.replicate (4 * 64) (.int .u8 0)) 64 (sec A 0)) 64 (sec B 0) else put (List.replicate (4 * 64) (.int .u8 0)) 64 (sec A 0) := by
  rcases h with rfl | rfl | rfl <;> cases keep <;> rfl

end Go.Proofs.Ytjepiaacaemkhaa
