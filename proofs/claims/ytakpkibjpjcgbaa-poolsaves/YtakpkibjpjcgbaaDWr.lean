/-
  What a write of sectors does to a device, however it stands.
-/
import Derived.Test.YtakpkibjpjcgbaaDDv
import Derived.Test.YtakpkibjpjcgbaaPTypes
namespace Go.Proofs.Ytakpkibjpjcgbaa
open Go.RowKit Go.Shelf
set_option linter.unusedSimpArgs false
set_option linter.unusedVariables false
set_option maxRecDepth 100000

/-- The error of a write that keeps the device's bounds. -/
def wErr (s : D.DS) : Int := if s.off then 10 else if s.left = 0 then 10 else 0
/-- The device behind it. -/
def wDev (s : D.DS) (a m : Nat) (A : List Nat) : D.DS := if s.off then s else if s.left = 0 then s.spent else s.written a (BV A) m
theorem BV_isByte {A : List Nat} (h : ∀ x ∈ A, x < 256) : ∀ x ∈ BV A, D.isByte x := by
  intro x hx
  simp only [BV, List.mem_map] at hx
  obtain ⟨n, hn, rfl⟩ := hx
  exact ⟨n, rfl, by omega, by have := h n hn; omega⟩
theorem DevStep.pre {w w1 w2 : World} {b n : Nat} {s : D.DS} {F : Nat → Prop} (hk : Kept (fun _ => False) w w1) (h : D.DevStep w1 w2 b n s F) : D.DevStep w w2 b n s F := by
  obtain ⟨h1, F', h2, h3⟩ := h
  exact ⟨(hk.mono (fun _ _ h => h.elim)).trans h1 (fun _ _ h => h), F', h2, fun k hk' => (h3 k hk').imp id (fun h => Nat.le_trans hk.size h)⟩
theorem DevStep.post {w w1 w2 : World} {b n : Nat} {s : D.DS} {F : Nat → Prop} (h : D.DevStep w w1 b n s F) (hk : Kept (fun _ => False) w1 w2) : D.DevStep w w2 b n s F := by
  obtain ⟨h1, F', h2, h3⟩ := h
  exact ⟨h1.trans hk (fun _ _ h => h.elim), F', h2.kept hk (fun _ _ h => h), h3⟩
/-- Behind a step, what changes only new blocks that are none of the device's. -/
theorem DevStep.postS {w w1 w2 : World} {b n : Nat} {s : D.DS} {F S : Nat → Prop} (h : D.DevStep w w1 b n s F) (hk : Kept S w1 w2) (hS : ∀ k, S k → w.heap.size ≤ k ∧ ∀ F', D.DevAt w1 b n s F' → ¬ F' k) : D.DevStep w w2 b n s F := by
  obtain ⟨h1, F', h2, h3⟩ := h
  exact ⟨h1.trans hk (fun i hi hs => by have := (hS i hs).1; omega), F', h2.kept hk (fun k hk' hs => (hS k hs).2 F' h2 hk'), h3⟩
set_option maxHeartbeats 1000000 in
theorem dwrite_at (w : World) (b n : Nat) (s : D.DS) (F : Nat → Prop) (h : D.DevAt w b n s F) (a m cap : Nat) (bo : Option Addr) (A : List Nat) (hA : A.length = 64 * m) (hAb : ∀ x ∈ A, x < 256) (hcap : 64 * m ≤ cap)
    (hsrc : 0 < m → ∃ sb so, bo = some ⟨sb, so, none⟩ ∧ Cells w sb so (BV A) ∧ ¬ F sb) (hm : m ≤ 100000) (ham : a + m ≤ n) (hc : s.calls < 4611686018427387904) (hlen : s.ws.length + m < 1000000000) :
    Calls Try.prog 36 #[.pointer (some ⟨b, 0, none⟩), .int .i64 a, .slice bo (64 * m) cap] w fun e w' => e = .returned (.int .i64 (wErr s)) ∧ D.DevStep w w' b n (wDev s a m A) F := by
  have hn2 : n ≤ 4096 := by obtain ⟨bs, wv, hd, _⟩ := h; exact hd.n2
  unfold wErr wDev
  cases hs : s.off with
  | true => simpa using D.write_off w b n s F h a (.slice bo (64 * m) cap) hs
  | false =>
    by_cases hz : s.left = 0
    · have := D.write_limit w b n s F h a (by omega) bo m cap (by omega) hs (D.hasB_nat n a m ham) hz hc
      simpa [hz] using this
    · have := D.write_ok w b n s F h a m cap bo (BV A) (by rw [BV_length]; exact hA) (BV_isByte hAb) hcap hsrc ham hs hz hc hlen
      simpa [hz] using this
theorem spent_calls (s : D.DS) : s.spent.calls ≤ s.calls + 1 := by unfold D.DS.spent; split <;> simp
theorem wDev_calls (s : D.DS) (a m : Nat) (A : List Nat) : (wDev s a m A).calls ≤ s.calls + 1 := by
  unfold wDev
  split
  · omega
  · split
    · exact spent_calls s
    · exact spent_calls s
theorem flushed_calls (s : D.DS) : s.flushed.calls ≤ s.calls + 1 := by
  unfold D.DS.flushed
  split
  · omega
  · split
    · exact spent_calls s
    · exact spent_calls s
end Go.Proofs.Ytakpkibjpjcgbaa
