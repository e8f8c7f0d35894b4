/-
  Scans, and where their bytes lie.
-/
import Derived.Test.YtcdlgaknpmlfeaaRWs
namespace Go.Proofs.Ytcdlgaknpmlfeaa
open Go.RowKit Go.Shelf
set_option linter.unusedSimpArgs false
set_option linter.unusedVariables false

set_option maxHeartbeats 2000000 in
theorem snum_x (w : World) (s : Nat) (v : Value) (B : List Nat) (E : Int) (h : ScanAt w s v B E) (hl : B.length ≤ 90000000) (m : Int) :
    Calls Try.prog 25 #[.pointer (some ⟨s, 0, none⟩), .int .i64 m] w fun e w' => ∃ v', e = .returned (.int .i64 (scanNum B E m).1) ∧ ScanAt w' s v' (scanNum B E m).2.1 (scanNum B E m).2.2 ∧ Kept (fun k => k = s) w w' ∧ (0 < (scanNum B E m).2.1.length → 0 < B.length ∧ ∀ k, vX v' k → vX v k) := by
  have HE := hide (err_at w s v B E h)
  by_cases hE : E = 0
  · subst hE
    have HF := hide (first_at w v B h.2 (by omega) m)
    have hc0 := h.1.cell 0
    have hc1 := h.1.cell 1
    have hf0 := h.1.frozen 0
    have hf1 := h.1.frozen 1
    simp at hc0 hc1
    have HH := hide h
    clear h
    cases hfn : firstN B m with
    | none =>
      rw [hfn] at HF
      rw [sN_none hfn]
      clear hfn
      go_enter Try.func25, Try.ntmps25
      go_wp2_with fail
      refine HE.out.mono ?_
      rintro e w1 ⟨rfl, rfl⟩
      go_wp2_with fail
      refine HF.out.mono ?_
      rintro e w1 ⟨rfl, rfl⟩
      simp only [firstV]
      go_wp2
      go_ret
      exact ⟨v, rfl, HH.out.fail.1, HH.out.fail.2, fun h => ⟨h, fun _ h => h⟩⟩
    | some n =>
      obtain ⟨h1, h8, hml, hnv, hn⟩ := firstN_some hfn
      clear hnv
      obtain ⟨q, rfl⟩ : ∃ q : Nat, m = q := ⟨m.toNat, by omega⟩
      rw [hfn] at HF
      rw [sN_some hfn, Int.toNat_natCast]
      obtain ⟨bo, c, e⟩ := HH.out.slice
      subst e
      obtain ⟨bo', c', e, hcap, _, hsrc, _⟩ := HH.out.2
      cases e
      obtain ⟨sb, so, e, _⟩ := hsrc (by omega)
      subst e
      clear hfn hsrc
      go_enter Try.func25, Try.ntmps25
      go_wp2_with fail
      refine HE.out.mono ?_
      rintro e w1 ⟨rfl, rfl⟩
      go_wp2_with fail
      refine HF.out.mono ?_
      rintro e w1 ⟨rfl, rfl⟩
      simp only [firstV]
      go_wp2_with (with_reducible refine stop_slice 25 ?_)
      refine hide ?_
      refine aw_lo25 (B := B) q rfl rfl rfl HH.out.2 (by omega) ?_
      intro so' hs'
      obtain ⟨hg1, hg2⟩ := HH.out.go hs'
      have HG1 := hide hg1
      clear hg1 hs'
      have hq1 : 0 < (B.drop q).length → 0 < B.length := fun h => by simp at h; omega
      have HQ1 := hide hq1
      clear hq1
      generalize B.length - q = q1 at *
      generalize c - q = q2 at *
      go_wp2
      go_ret
      exact ⟨_, rfl, HG1.out, hg2, fun h => ⟨HQ1.out h, fun k ⟨o, n, c, e⟩ => by simp only [Value.slice.injEq, Option.some.injEq, Addr.mk.injEq] at e; exact ⟨_, _, _, by rw [e.1.1]⟩⟩⟩
  · have HH := hide h
    rw [scanNum_err m hE]
    clear h
    go_enter Try.func25, Try.ntmps25
    go_wp2_with fail
    refine HE.out.mono ?_
    rintro e w1 ⟨rfl, rfl⟩
    go_wp2
    go_ret
    exact ⟨v, rfl, HH.out, Kept.refl _ _, fun h => ⟨h, fun _ h => h⟩⟩


/-- A scan at s; it and its bytes lie below N. -/
def Sc (N : Nat) (w : World) (s : Nat) (B : List Nat) (E : Int) : Prop := s < N ∧ N ≤ w.heap.size ∧ ∃ v, ScanAt w s v B E ∧ (0 < B.length → ∀ k, vX v k → k < N)
theorem Sc.of {w : World} {s : Nat} {v : Value} {B : List Nat} {E : Int} (h : ScanAt w s v B E) : Sc w.heap.size w s B E := by
  refine ⟨h.1.lt, Nat.le_refl _, v, h, fun h0 k hk => ?_⟩
  obtain ⟨bo, cap, rfl, h1, h2, h3, h4⟩ := h.2
  obtain ⟨sb, so, rfl, hc⟩ := h3 h0
  obtain ⟨o, n, c, e⟩ := hk
  simp only [Value.slice.injEq, Option.some.injEq, Addr.mk.injEq] at e
  rw [← e.1.1]
  exact World.block_lt_of_cell? w _ (hc 0 _ (BV_get B 0 h0))
theorem Src.keptX {S : Nat → Prop} {w w' : World} {v : Value} {B : List Nat} (h : Src w v B) (hk : Kept S w w') (hn : 0 < B.length → ∀ k, vX v k → ¬ S k) : Src w' v B := by
  obtain ⟨bo, cap, rfl, h1, h2, h3, h4⟩ := h
  exact ⟨bo, cap, rfl, h1, h2, fun h => by obtain ⟨sb, so, e, hc⟩ := h3 h; exact ⟨sb, so, e, hk.cells hc (hn h sb ⟨so, _, _, by rw [e]⟩)⟩, h4⟩
theorem Sc.kept {S : Nat → Prop} {N : Nat} {w w' : World} {s : Nat} {B : List Nat} {E : Int} (h : Sc N w s B E) (hk : Kept S w w') (hS : ∀ k, k < N → ¬ S k) : Sc N w' s B E := by
  obtain ⟨h1, h2, v, h3, h4⟩ := h
  exact ⟨h1, Nat.le_trans h2 hk.size, v, ⟨hk.blk h3.1 (hS s h1), h3.2.keptX hk (fun h0 k hx => hS k (h4 h0 k hx))⟩, h4⟩
theorem Sc.lt {N : Nat} {w : World} {s : Nat} {B : List Nat} {E : Int} (h : Sc N w s B E) : ∀ x ∈ B, x < 256 := by
  obtain ⟨_, _, v, h3, _⟩ := h
  exact h3.2.lt
theorem snum_sc (N : Nat) (w : World) (s : Nat) (B : List Nat) (E : Int) (h : Sc N w s B E) (hl : B.length ≤ 90000000) (m : Int) :
    Calls Try.prog 25 #[.pointer (some ⟨s, 0, none⟩), .int .i64 m] w fun e w' => e = .returned (.int .i64 (scanNum B E m).1) ∧ Sc N w' s (scanNum B E m).2.1 (scanNum B E m).2.2 ∧ Kept (fun k => k = s) w w' := by
  obtain ⟨h1, h2, v, h3, h4⟩ := h
  refine (snum_x w s v B E h3 hl m).mono ?_
  rintro e w' ⟨v', rfl, hs', hk, hx⟩
  exact ⟨rfl, ⟨h1, Nat.le_trans h2 hk.size, v', hs', fun h0 k hv => h4 (hx h0).1 k ((hx h0).2 k hv)⟩, hk⟩
theorem err_sc (N : Nat) (w : World) (s : Nat) (B : List Nat) (E : Int) (h : Sc N w s B E) : Calls Try.prog 27 #[.pointer (some ⟨s, 0, none⟩)] w fun e w' => e = .returned (.int .i64 E) ∧ w = w' := by
  obtain ⟨h1, h2, v, h3, h4⟩ := h
  exact err_at w s v B E h3
theorem left_sc (N : Nat) (w : World) (s : Nat) (B : List Nat) (E : Int) (h : Sc N w s B E) : Calls Try.prog 28 #[.pointer (some ⟨s, 0, none⟩)] w fun e w' => e = .returned (.int .i64 B.length) ∧ w = w' := by
  obtain ⟨h1, h2, v, h3, h4⟩ := h
  exact left_at w s v B E h3

theorem built40 {w : World} {ρ : Operand → Value} {dst : Option Tmp} {ty : TypeId} {pos : String} {aft : Array Edge} {gd : Option (Nat × Bool)} {a b : Operand} {k : Int} {sa : Option Addr} {sn sc : Nat} (ha : ρ a = .int .i64 k) (hb : ρ b = .slice sa sn sc) :
    (execOp ρ ⟨dst, .build 40 #[(0, a), (1, b)], ty, pos, aft, gd⟩).run Try.prog w = .ok (.value (.agg #[.int .i64 k, .slice sa sn sc])) w := by
  obtain ⟨i0, hi0, hz0, hs0, hb0⟩ := info_parts Try.info40
  have hpl : ∀ (fields : Array Field), Try.prog.underlying 40 = some (.struct fields) → fields.toList.mapM (fun f => (Try.prog.info? f.type).map fun i => (f.offset, i.size)) = some [(0, 1), (1, 1)] := by
    intro fields hf
    rw [Try.underlying40] at hf
    cases hf
    kernel_rfl
  exact (run_build_two (v1 := .int .i64 k) (v2 := .slice sa sn sc) (M1 := [.int .i64 k]) (M2 := [.slice sa sn sc]) hi0 hz0 Try.underlying40 (hpl _ Try.underlying40) ha hb rfl rfl rfl rfl (by simp [Value.cells]) (by simp [Value.cells])).trans (by simp [put, Value.cells])

section
variable {P : Program} {md : Region.Mode} {ops : Array Oper} {Q : Exit → Act → World → Prop} {S : World → Prop} {m fuel : Nat} {listed : Array Bool} {a : Act} {w w' : World}
theorem threeS (i j l : Nat) (hr : Region.ready md ops listed = [i, j, l]) (h : wpOp P ops Q i (fun a' w'' => (i ≠ m → S w'') ∧ wpAnyM P md ops Q S m fuel (listed.setIfInBounds i true) a' w'') a w)
    (h2 : wpOp P ops Q j (fun a' w'' => (j ≠ m → S w'') ∧ wpAnyM P md ops Q S m fuel (listed.setIfInBounds j true) a' w'') a w)
    (h3 : wpOp P ops Q l (fun a' w'' => (l ≠ m → S w'') ∧ wpAnyM P md ops Q S m fuel (listed.setIfInBounds l true) a' w'') a w) : wpAnyM P md ops Q S m (fuel + 1) listed a w := by
  refine ⟨fun h0 => absurd (hr ▸ h0) (by simp), hr ▸ ?_⟩
  intro k hk
  simp at hk
  rcases hk with rfl | rfl | rfl
  · exact h
  · exact h2
  · exact h3
end
end Go.Proofs.Ytcdlgaknpmlfeaa
