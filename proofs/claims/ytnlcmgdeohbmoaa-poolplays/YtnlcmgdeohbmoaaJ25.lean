/-
  A device among other blocks that are known whole; the calls on it.
-/
import Derived.Test.YtnlcmgdeohbmoaaJ24
import Derived.Test.YtnlcmgdeohbmoaaJ03
namespace Go.Proofs.Ytnlcmgdeohbmoaa.D
open Go.RowKit Go.Shelf
set_option linter.unusedSimpArgs false
set_option linter.unusedVariables false
set_option maxRecDepth 100000

/-- A device among other blocks: all its blocks are at w0's end or beyond; the blocks of G are others. -/
structure Dv (w0 w : World) (b n : Nat) (s : DS) (G : List (Nat × List Value × TypeId)) : Prop where
  dev : ∃ F, DevAt w b n s F ∧ (∀ k, F k → w0.heap.size ≤ k) ∧ ∀ x ∈ G, ¬ F x.1
  kept : Kept (fun _ => False) w0 w
  blk : ∀ x ∈ G, Blk w x.1 x.2.1 x.2.2

section
variable {w0 w w' : World} {b n : Nat} {s s' : DS} {G : List (Nat × List Value × TypeId)}

theorem Dv.stepF (h : Dv w0 w b n s G) {F : Nat → Prop} (hF : ∀ k, F k → w0.heap.size ≤ k) (hG : ∀ x ∈ G, ¬ F x.1) (hs : DevStep w w' b n s' F) : Dv w0 w' b n s' G := by
  obtain ⟨hk, F', hd', hF'⟩ := hs
  refine ⟨⟨F', hd', ?_, ?_⟩, h.kept.trans hk ?_, fun x hx => hk.blk (h.blk x hx) (hG x hx)⟩
  · intro k hk'
    rcases hF' k hk' with h1 | h1
    · exact hF k h1
    · exact Nat.le_trans h.kept.size h1
  · intro x hx hk'
    rcases hF' _ hk' with h1 | h1
    · exact hG x hx h1
    · have := (h.blk x hx).lt; omega
  · intro i hi hf
    have := hF i hf
    omega

theorem Dv.more (h : Dv w0 w b n s G) (hk : Kept (fun _ => False) w w') (g : Nat) (L : List Value) (t : TypeId) (hb : Blk w' g L t) (hg : w.heap.size ≤ g) : Dv w0 w' b n s ((g, L, t) :: G) := by
  obtain ⟨F, hd, hF, hG⟩ := h.dev
  refine ⟨⟨F, hd.kept hk (fun _ _ h => h), hF, ?_⟩, h.kept.trans hk (fun _ _ h => h), ?_⟩
  · intro x hx
    rcases List.mem_cons.1 hx with rfl | hx
    · intro hf; have := hd.lt _ hf; simp at hf hg; omega
    · exact hG x hx
  · intro x hx
    rcases List.mem_cons.1 hx with rfl | hx
    · exact hb
    · exact hk.blk (h.blk x hx) (fun h => h)

theorem Dv.same (h : Dv w0 w b n s G) (hk : Kept (fun _ => False) w w') : Dv w0 w' b n s G := by
  obtain ⟨F, hd, hF, hG⟩ := h.dev
  exact ⟨⟨F, hd.kept hk (fun _ _ h => h), hF, hG⟩, h.kept.trans hk (fun _ _ h => h), fun x hx => hk.blk (h.blk x hx) (fun h => h)⟩

theorem Dv.write (h : Dv w0 w b n s G) (a m cap g so : Nat) (L B : List Value) (t : TypeId) (hg : (g, L, t) ∈ G) (hL : (L.drop so).take (64 * m) = B) (hB : B.length = 64 * m) (hBb : ∀ x ∈ B, isByte x) (hcap : 64 * m ≤ cap)
    (ham : a + m ≤ n) (ho : s.off = false) (hz : s.left ≠ 0) (hc : s.calls < 4611686018427387904) (hlen : s.ws.length + m < 1000000000) :
    Calls Try.prog 36 #[.pointer (some ⟨b, 0, none⟩), .int .i64 a, .slice (some ⟨g, so, none⟩) (64 * m) cap] w fun e w' => e = .returned (.int .i64 0) ∧ Dv w0 w' b n (s.written a B m) G := by
  obtain ⟨F, hd, hF, hG⟩ := h.dev
  refine (write_ok w b n s F hd a m cap (some ⟨g, so, none⟩) B hB hBb hcap (fun _ => ⟨g, so, rfl, hL ▸ (h.blk _ hg).cells so (64 * m), hG _ hg⟩) ham ho hz hc hlen).mono ?_
  rintro e w' ⟨rfl, hs⟩
  exact ⟨rfl, h.stepF hF hG hs⟩

theorem Dv.write_off (h : Dv w0 w b n s G) (a : Int) (v : Value) (ho : s.off = true) :
    Calls Try.prog 36 #[.pointer (some ⟨b, 0, none⟩), .int .i64 a, v] w fun e w' => e = .returned (.int .i64 10) ∧ Dv w0 w' b n s G := by
  obtain ⟨F, hd, hF, hG⟩ := h.dev
  refine (Go.Proofs.Ytnlcmgdeohbmoaa.D.write_off w b n s F hd a v ho).mono ?_
  rintro e w' ⟨rfl, hs⟩
  exact ⟨rfl, h.stepF hF hG hs⟩

theorem Dv.write_limit (h : Dv w0 w b n s G) (a m cap : Nat) (ao : Option Addr) (hm : m ≤ 4096) (ham : a + m ≤ n) (hn : n ≤ 4096) (ho : s.off = false) (hz : s.left = 0) (hc : s.calls < 4611686018427387904) :
    Calls Try.prog 36 #[.pointer (some ⟨b, 0, none⟩), .int .i64 a, .slice ao (64 * m) cap] w fun e w' => e = .returned (.int .i64 10) ∧ Dv w0 w' b n s.spent G := by
  obtain ⟨F, hd, hF, hG⟩ := h.dev
  refine (Go.Proofs.Ytnlcmgdeohbmoaa.D.write_limit w b n s F hd a (by omega) ao m cap (by omega) ho (hasB_nat n a m ham) hz hc).mono ?_
  rintro e w' ⟨rfl, hs⟩
  exact ⟨rfl, h.stepF hF hG hs⟩

theorem Dv.flush (h : Dv w0 w b n s G) (hc : s.calls < 4611686018427387904) : Calls Try.prog 37 #[.pointer (some ⟨b, 0, none⟩)] w fun e w' => e = .returned (.int .i64 s.errF) ∧ Dv w0 w' b n s.flushed G := by
  obtain ⟨F, hd, hF, hG⟩ := h.dev
  refine (flush_at w b n s F hd hc).mono ?_
  rintro e w' ⟨rfl, hs⟩
  exact ⟨rfl, h.stepF hF hG hs⟩

theorem Dv.limit (h : Dv w0 w b n s G) (m : Int) (hm : m ≤ 9223372036854775807) : Calls Try.prog 25 #[.pointer (some ⟨b, 0, none⟩), .int .i64 m] w fun e w' => e = .returned (.tuple #[]) ∧ Dv w0 w' b n { s with left := max m (-1) } G := by
  obtain ⟨F, hd, hF, hG⟩ := h.dev
  refine (limit_at w b n s F hd m hm).mono ?_
  rintro e w' ⟨rfl, hs⟩
  exact ⟨rfl, h.stepF hF hG hs⟩

theorem keepIs_nil (w : World) (S : Nat → Prop) : keepIs w (.slice none 0 0) [] S := ⟨none, 0, rfl, by decide, fun i hi => by simp at hi⟩

theorem Dv.crash_nil (h : Dv w0 w b n s G) : Calls Try.prog 24 #[.pointer (some ⟨b, 0, none⟩), .slice none 0 0] w fun e w' => e = .returned (.tuple #[]) ∧ Dv w0 w' b n (s.crashed []) G := by
  obtain ⟨F, hd, hF, hG⟩ := h.dev
  refine (crash_at w b n s F hd _ [] (keepIs_nil w F)).mono ?_
  rintro e w' ⟨rfl, hs⟩
  exact ⟨rfl, h.stepF hF hG hs⟩

theorem Dv.crash (h : Dv w0 w b n s G) (g cap : Nat) (ks : List Bool) (t : TypeId) (hlen : ks.length ≤ 9223372036854775807) (hg : (g, ks.map Value.bool, t) ∈ G) :
    Calls Try.prog 24 #[.pointer (some ⟨b, 0, none⟩), .slice (some ⟨g, 0, none⟩) ks.length cap] w fun e w' => e = .returned (.tuple #[]) ∧ Dv w0 w' b n (s.crashed ks) G := by
  obtain ⟨F, hd, hF, hG⟩ := h.dev
  refine (crash_at w b n s F hd _ ks ⟨_, cap, rfl, hlen, fun i hi => ⟨g, 0, rfl, ?_, hG _ hg⟩⟩).mono ?_
  · rw [(h.blk _ hg).cell]
    simp [hi]
  · rintro e w' ⟨rfl, hs⟩
    exact ⟨rfl, h.stepF hF hG hs⟩

theorem Dv.read (h : Dv w0 w b n s G) (a m : Nat) (ho : s.off = false) (hh : a + m ≤ n) :
    Calls Try.prog 30 #[.pointer (some ⟨b, 0, none⟩), .int .i64 a, .int .i64 m] w fun e w' => ∃ g, e = .returned (.tuple #[.slice (some ⟨g, 0, none⟩) (m * 64) (m * 64), .int .i64 0]) ∧ Dv w0 w' b n s ((g, part s.view a m, 5) :: G) := by
  obtain ⟨F, hd, hF, hG⟩ := h.dev
  refine (read_ok w b n s F hd a m ho hh).mono ?_
  rintro e w' ⟨g, rfl, hb, hk, hg⟩
  exact ⟨g, rfl, h.more hk g _ 5 hb hg⟩

theorem Dv.image (h : Dv w0 w b n s G) : Calls Try.prog 26 #[.pointer (some ⟨b, 0, none⟩)] w fun e w' => ∃ g, e = .returned (.slice (some ⟨g, 0, none⟩) (n * 64) (n * 64)) ∧ Dv w0 w' b n s ((g, s.st, 5) :: G) := by
  obtain ⟨F, hd, hF, hG⟩ := h.dev
  refine (image_at w b n s F hd).mono ?_
  rintro e w' ⟨rfl, hb, hk⟩
  exact ⟨_, rfl, h.more hk _ _ 5 hb (Nat.le_refl _)⟩

theorem Dv.size (h : Dv w0 w b n s G) : Calls Try.prog 27 #[.pointer (some ⟨b, 0, none⟩)] w fun e w' => e = .returned (.int .i64 n) ∧ w = w' := by
  obtain ⟨F, hd, _⟩ := h.dev
  exact size_at w b n s F hd
end

theorem Dv.new (w0 w : World) (n : Nat) (h1 : 1 ≤ n) (h2 : n ≤ 4096) (hk0 : Kept (fun _ => False) w0 w) (G : List (Nat × List Value × TypeId)) (hG : ∀ x ∈ G, Blk w x.1 x.2.1 x.2.2) :
    Calls Try.prog 7 #[.int .i64 n] w fun e w' => ∃ b, e = .returned (.tuple #[.pointer (some ⟨b, 0, none⟩), .int .i64 0]) ∧ Dv w0 w' b n (DS.new n) G := by
  refine (new_at w n h1 h2).mono ?_
  rintro e w' ⟨rfl, hk, hd⟩
  refine ⟨_, rfl, ⟨_, hd, ?_, ?_⟩, hk0.trans hk (fun _ _ h => h), fun x hx => hk.blk (hG x hx) (fun h => h)⟩
  · have := hk0.size
    rintro k (rfl | rfl)
    · omega
    · omega
  · intro x hx hf
    have := (hG x hx).lt
    rcases hf with h | h
    · omega
    · omega

end Go.Proofs.Ytnlcmgdeohbmoaa.D

/-
  What a write of sectors does to a device, however it stands.
-/
namespace Go.Proofs.Ytnlcmgdeohbmoaa
open Go.RowKit Go.Shelf
set_option linter.unusedSimpArgs false
set_option linter.unusedVariables false
set_option maxRecDepth 100000

/-- The error of a write that keeps the device's bounds. -/
def wErr (s : D.DS) : Int := if s.off then 10 else if s.left = 0 then 10 else 0
/-- The device behind it. -/
def wDev (s : D.DS) (a m : Nat) (A : List Nat) : D.DS := if s.off then s else if s.left = 0 then s.spent else s.written a (BV A) m
theorem BV_isByte {A : List Nat} (h : ∀ x ∈ A, x < 256) : ∀ x ∈ BV A, D.isByte x := by
  intro x hx
  simp only [BV, List.mem_map] at hx
  obtain ⟨n, hn, rfl⟩ := hx
  exact ⟨n, rfl, by omega, by have := h n hn; omega⟩
theorem DevStep.pre {w w1 w2 : World} {b n : Nat} {s : D.DS} {F : Nat → Prop} (hk : Kept (fun _ => False) w w1) (h : D.DevStep w1 w2 b n s F) : D.DevStep w w2 b n s F := by
  obtain ⟨h1, F', h2, h3⟩ := h
  exact ⟨(hk.mono (fun _ _ h => h.elim)).trans h1 (fun _ _ h => h), F', h2, fun k hk' => (h3 k hk').imp id (fun h => Nat.le_trans hk.size h)⟩
theorem DevStep.post {w w1 w2 : World} {b n : Nat} {s : D.DS} {F : Nat → Prop} (h : D.DevStep w w1 b n s F) (hk : Kept (fun _ => False) w1 w2) : D.DevStep w w2 b n s F := by
  obtain ⟨h1, F', h2, h3⟩ := h
  exact ⟨h1.trans hk (fun _ _ h => h.elim), F', h2.kept hk (fun _ _ h => h), h3⟩
/-- Behind a step, what changes only new blocks that are none of the device's. -/
theorem DevStep.postS {w w1 w2 : World} {b n : Nat} {s : D.DS} {F S : Nat → Prop} (h : D.DevStep w w1 b n s F) (hk : Kept S w1 w2) (hS : ∀ k, S k → w.heap.size ≤ k ∧ ∀ F', D.DevAt w1 b n s F' → ¬ F' k) : D.DevStep w w2 b n s F := by
  obtain ⟨h1, F', h2, h3⟩ := h
  exact ⟨h1.trans hk (fun i hi hs => by have := (hS i hs).1; omega), F', h2.kept hk (fun k hk' hs => (hS k hs).2 F' h2 hk'), h3⟩
set_option maxHeartbeats 1000000 in
theorem dwrite_at (w : World) (b n : Nat) (s : D.DS) (F : Nat → Prop) (h : D.DevAt w b n s F) (a m cap : Nat) (bo : Option Addr) (A : List Nat) (hA : A.length = 64 * m) (hAb : ∀ x ∈ A, x < 256) (hcap : 64 * m ≤ cap)
    (hsrc : 0 < m → ∃ sb so, bo = some ⟨sb, so, none⟩ ∧ Cells w sb so (BV A) ∧ ¬ F sb) (hm : m ≤ 100000) (ham : a + m ≤ n) (hc : s.calls < 4611686018427387904) (hlen : s.ws.length + m < 1000000000) :
    Calls Try.prog 36 #[.pointer (some ⟨b, 0, none⟩), .int .i64 a, .slice bo (64 * m) cap] w fun e w' => e = .returned (.int .i64 (wErr s)) ∧ D.DevStep w w' b n (wDev s a m A) F := by
  have hn2 : n ≤ 4096 := by obtain ⟨bs, wv, hd, _⟩ := h; exact hd.n2
  unfold wErr wDev
  cases hs : s.off with
  | true => simpa using D.write_off w b n s F h a (.slice bo (64 * m) cap) hs
  | false =>
    by_cases hz : s.left = 0
    · have := D.write_limit w b n s F h a (by omega) bo m cap (by omega) hs (D.hasB_nat n a m ham) hz hc
      simpa [hz] using this
    · have := D.write_ok w b n s F h a m cap bo (BV A) (by rw [BV_length]; exact hA) (BV_isByte hAb) hcap hsrc ham hs hz hc hlen
      simpa [hz] using this
theorem spent_calls (s : D.DS) : s.spent.calls ≤ s.calls + 1 := by unfold D.DS.spent; split <;> simp
theorem wDev_calls (s : D.DS) (a m : Nat) (A : List Nat) : (wDev s a m A).calls ≤ s.calls + 1 := by
  unfold wDev
  split
  · omega
  · split
    · exact spent_calls s
    · exact spent_calls s
theorem flushed_calls (s : D.DS) : s.flushed.calls ≤ s.calls + 1 := by
  unfold D.DS.flushed
  split
  · omega
  · split
    · exact spent_calls s
    · exact spent_calls s
end Go.Proofs.Ytnlcmgdeohbmoaa
