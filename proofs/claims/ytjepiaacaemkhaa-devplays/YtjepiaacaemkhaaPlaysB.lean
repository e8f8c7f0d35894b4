/-
  Each call of a device and of the reference, in one form.
-/
import Derived.Test.YtjepiaacaemkhaaPlaysA
namespace Go.Proofs.Ytjepiaacaemkhaa
open Go.RowKit Go.Shelf
set_option linter.unusedSimpArgs false
set_option linter.unusedVariables false

def DS.readR (s : DS) (n : Nat) (a m : Int) : List Value × Int := if s.off then ([], 10) else if hasB n a m then (part s.view a.toNat m.toNat, 0) else ([], 11)
def DS.writeR (s : DS) (n : Nat) (a : Int) (B : List Value) : DS × Int :=
  if s.off then (s, 10) else if B.length % 64 ≠ 0 then (s, 2) else if hasB n a ((B.length / 64 : Nat) : Int) = false then (s, 11) else if s.left = 0 then (s.spent, 10) else (s.written a.toNat B (B.length / 64), 0)
def DS.turnR (s : DS) (n : Nat) (a m : Int) : DS × Int := if hasB n a 1 = false ∨ m < 0 ∨ 511 < m then (s, 11) else (s.turned a.toNat m.toNat, 0)

def bytesIs (w : World) (v : Value) (T : List Value) : Prop := (v = .slice none 0 0 ∧ T = []) ∨ ∃ g cap, v = .slice (some ⟨g, 0, none⟩) T.length cap ∧ Cells w g 0 T
def rowStep (w w' : World) (rv : Value) (ws : List (Nat × List Value)) (rv' : Value) (ws' : List (Nat × List Value)) : Prop := (rv' = rv ∧ ws' = ws) ∨ w'.ownsRow w.heap.size 74 2 rv' ws'.length (flatR ws')

theorem hasB_of {n : Nat} {a m : Int} (h : hasB n a m = true) : ∃ x y : Nat, a = x ∧ m = y ∧ x + y ≤ n := by
  simp [hasB] at h
  exact ⟨a.toNat, m.toNat, by omega, by omega, by omega⟩

theorem ownsRow_slice {w : World} {base e size n : Nat} {v : Value} {xs : List Value} (h : w.ownsRow base e size v n xs) : ∃ ro rl rc, v = .slice ro rl rc := by
  rcases h.2 with ⟨rfl, _⟩ | ⟨g, cap, cur, rfl, _⟩
  · exact ⟨_, _, _, rfl⟩
  · exact ⟨_, _, _, rfl⟩

theorem Dv.facts {w0 w : World} {b n : Nat} {s : DS} {G : List (Nat × List Value × TypeId)} (h : Dv w0 w b n s G) :
    1 ≤ n ∧ n ≤ 4096 ∧ s.st.length = 64 * n ∧ (∀ v ∈ s.st, isByte v) ∧ (∀ p ∈ s.ws, okWait n p) ∧ -1 ≤ s.left ∧ s.left ≤ 9223372036854775807 := by
  obtain ⟨F, ⟨bs, wv, hd, _⟩, _⟩ := h.dev
  exact ⟨hd.n1, hd.n2, hd.hl, hd.hB, hd.ok, hd.l1, hd.l2⟩

theorem Dv.sub {w0 w : World} {b n : Nat} {s : DS} {G G' : List (Nat × List Value × TypeId)} (h : Dv w0 w b n s G) (hs : ∀ x ∈ G', x ∈ G) : Dv w0 w b n s G' := by
  obtain ⟨F, hd, hF, hG⟩ := h.dev
  exact ⟨⟨F, hd, hF, fun x hx => hG x (hs x hx)⟩, h.kept, fun x hx => h.blk x (hs x hx)⟩

theorem Dv.readR {w0 w : World} {b n : Nat} {s : DS} {G : List (Nat × List Value × TypeId)} (h : Dv w0 w b n s G) (a m : Int) (ha : a ≤ 9223372036854775807) :
    Calls Try.prog 8 #[.pointer (some ⟨b, 0, none⟩), .int .i64 a, .int .i64 m] w fun e w' => ∃ v, e = .returned (.tuple #[v, .int .i64 (s.readR n a m).2]) ∧ bytesIs w' v (s.readR n a m).1 ∧ Kept (fun _ => False) w w' := by
  obtain ⟨F, hd, _, _⟩ := h.dev
  by_cases ho : s.off = true
  · refine (read_off w b n s F hd a m ho).mono ?_
    rintro e w' ⟨rfl, rfl⟩
    exact ⟨_, by simp [DS.readR, ho], .inl ⟨rfl, by simp [DS.readR, ho]⟩, Kept.refl _ _⟩
  · have ho' : s.off = false := by simpa using ho
    by_cases hh : hasB n a m = true
    · obtain ⟨x, y, rfl, rfl, hxy⟩ := hasB_of hh
      refine (read_ok w b n s F hd x y ho' hxy).mono ?_
      rintro e w' ⟨g, rfl, hb, hk, _⟩
      have hok := laidTo_ok (fun _ => true) n s.ws s.st h.facts.2.2.2.2.1 h.facts.2.2.1 h.facts.2.2.2.1 s.ws.length (Nat.le_refl _)
      have hpl : (part s.view x y).length = 64 * y := part_length _ n x y hok.1 hxy
      have hr : s.readR n x y = (part s.view x y, 0) := by simp [DS.readR, ho', hh]
      rw [hr]
      refine ⟨_, rfl, .inr ⟨g, y * 64, by rw [hpl, Nat.mul_comm], ?_⟩, hk⟩
      have := hb.cells 0 (64 * y)
      rwa [List.drop_zero, List.take_of_length_le (by rw [hpl]; exact Nat.le_refl _)] at this
    · have hh' : hasB n a m = false := by simpa using hh
      refine (read_range w b n s F hd a m ha ho' hh').mono ?_
      rintro e w' ⟨rfl, rfl⟩
      exact ⟨_, by simp [DS.readR, ho', hh'], .inl ⟨rfl, by simp [DS.readR, ho', hh']⟩, Kept.refl _ _⟩

theorem refReadR (w : World) (s : DS) (n : Nat) (hl : s.st.length = 64 * n) (hn : n ≤ 4096) (rv : Value) (how : w.ownsRow 0 74 2 rv s.ws.length (flatR s.ws)) (hw : ∀ p ∈ s.ws, okWait n p) (hB : ∀ v ∈ s.st, isByte v) (a m : Int) (ha : a ≤ 9223372036854775807) :
    Calls Try.prog 20 #[refA s rv, .int .i64 a, .int .i64 m] w fun e w' => e = .returned (.tuple #[.string (strV (s.readR n a m).1), .int .i64 (s.readR n a m).2]) ∧ Kept (fun _ => False) w w' := by
  obtain ⟨ro, rl, rc, rfl⟩ := ownsRow_slice how
  by_cases ho : s.off = true
  · have hr : s.readR n a m = ([], 10) := by simp [DS.readR, ho]
    rw [hr]
    exact refRead_off w s ro rl rc a m ho
  · have ho' : s.off = false := by simpa using ho
    by_cases hh : hasB n a m = true
    · obtain ⟨x, y, rfl, rfl, hxy⟩ := hasB_of hh
      have hr : s.readR n x y = (part s.view x y, 0) := by simp [DS.readR, ho', hh]
      rw [hr]
      exact refRead_ok w s n hl hn _ how hw hB x y hxy ho'
    · have hh' : hasB n a m = false := by simpa using hh
      have hr : s.readR n a m = ([], 11) := by simp [DS.readR, ho', hh']
      rw [hr]
      exact refRead_range w s n hl hn ro rl rc a m ha ho' hh'

theorem Dv.step {w0 w : World} {b n : Nat} {s : DS} {G : List (Nat × List Value × TypeId)} (h : Dv w0 w b n s G) {f : FuncId} {args : Array Value} {v : Value} {s' : DS}
    (hc : ∀ F, DevAt w b n s F → (∀ k, F k → w0.heap.size ≤ k) → Calls Try.prog f args w fun e w' => e = .returned v ∧ DevStep w w' b n s' F) : Calls Try.prog f args w fun e w' => e = .returned v ∧ Dv w0 w' b n s' G := by
  obtain ⟨F, hd, hF, hG⟩ := h.dev
  refine (hc F hd hF).mono ?_
  rintro e w' ⟨rfl, hs⟩
  exact ⟨rfl, h.stepF hF hG hs⟩

theorem Cells.nil (w : World) (b so : Nat) : Cells w b so [] := by intro j v hj; simp at hj

theorem Dv.writeR {w0 w : World} {b n : Nat} {s : DS} {G : List (Nat × List Value × TypeId)} (h : Dv w0 w b n s G) (a : Int) (ha : a ≤ 9223372036854775807) (bo : Option Addr) (bc : Nat) (B : List Value) (hBb : ∀ v ∈ B, isByte v) (hbl : B.length ≤ 2000) (hbc : B.length ≤ bc)
    (hsrc : 0 < B.length → ∃ sb so, bo = some ⟨sb, so, none⟩ ∧ Cells w0 sb so B) (hc : s.calls < 4611686018427387904) (hws : s.ws.length < 100000000) :
    Calls Try.prog 11 #[.pointer (some ⟨b, 0, none⟩), .int .i64 a, .slice bo B.length bc] w fun e w' => e = .returned (.int .i64 (s.writeR n a B).2) ∧ Dv w0 w' b n (s.writeR n a B).1 G := by
  refine h.step (fun F hd hF => ?_)
  by_cases ho : s.off = true
  · have hr : s.writeR n a B = (s, 10) := by simp [DS.writeR, ho]
    rw [hr]
    exact Go.Proofs.Ytjepiaacaemkhaa.write_off w b n s F hd a _ ho
  · have ho' : s.off = false := by simpa using ho
    by_cases h64 : B.length % 64 ≠ 0
    · have hr : s.writeR n a B = (s, 2) := by simp [DS.writeR, ho', h64]
      rw [hr]
      exact write_arg w b n s F hd a bo B.length bc (by omega) ho' h64
    · have hm : B.length = 64 * (B.length / 64) := by omega
      obtain ⟨m, hme⟩ : ∃ m, m = B.length / 64 := ⟨_, rfl⟩
      rw [← hme] at hm
      by_cases hh : hasB n a (m : Int) = false
      · have hr : s.writeR n a B = (s, 11) := by simp [DS.writeR, ho', ← hme, hh]; omega
        rw [hr, hm]
        exact write_range w b n s F hd a ha bo m bc (by omega) ho' hh
      · have hh' : hasB n a (m : Int) = true := by simpa using hh
        by_cases hz : s.left = 0
        · have hr : s.writeR n a B = (s.spent, 10) := by
            unfold DS.writeR; rw [if_neg (by simp [ho']), if_neg h64, ← hme, if_neg hh, if_pos hz]
          rw [hr, hm]
          exact Go.Proofs.Ytjepiaacaemkhaa.write_limit w b n s F hd a ha bo m bc (by omega) ho' hh' hz hc
        · have hr : s.writeR n a B = (s.written a.toNat B m, 0) := by
            unfold DS.writeR; rw [if_neg (by simp [ho']), if_neg h64, ← hme, if_neg hh, if_neg hz]
          obtain ⟨x, y, rfl, hy, hxy⟩ := hasB_of hh'
          obtain rfl : m = y := by omega
          rw [hr, hm]
          refine write_ok w b n s F hd x m bc bo B hm hBb (by omega) (fun h0 => ?_) hxy ho' hz hc (by omega)
          obtain ⟨sb, so, e1, e2⟩ := hsrc (by omega)
          have hlt := e2.lt (by omega)
          exact ⟨sb, so, e1, h.kept.cells e2 (fun h => h), fun hf => by have := hF sb hf; omega⟩

theorem refWriteR (w0 w : World) (s : DS) (n : Nat) (hl : s.st.length = 64 * n) (hn : n ≤ 4096) (rv : Value) (how : w.ownsRow 0 74 2 rv s.ws.length (flatR s.ws)) (hk : Kept (fun _ => False) w0 w) (a : Int) (ha : a ≤ 9223372036854775807) (bo : Option Addr) (bc : Nat) (B : List Value) (hBb : ∀ v ∈ B, isByte v) (hbl : B.length ≤ 2000) (hbc : B.length ≤ bc)
    (hsrc : 0 < B.length → ∃ sb so, bo = some ⟨sb, so, none⟩ ∧ Cells w0 sb so B) (l1 : -1 ≤ s.left) (l2 : s.left ≤ 9223372036854775807) (hc : s.calls < 4611686018427387904) (hws : s.ws.length < 100000000) :
    Calls Try.prog 21 #[refA s rv, .int .i64 a, .slice bo B.length bc] w fun e w' => ∃ rv', e = .returned (.tuple #[refA (s.writeR n a B).1 rv', .int .i64 (s.writeR n a B).2]) ∧ rowStep w w' rv s.ws rv' (s.writeR n a B).1.ws ∧ Kept (fun _ => False) w w' := by
  obtain ⟨ro, rl, rc, rfl⟩ := ownsRow_slice how
  by_cases ho : s.off = true
  · have hr : s.writeR n a B = (s, 10) := by simp [DS.writeR, ho]
    rw [hr]
    refine (refWrite_off w s ro rl rc a bo B.length bc ho).mono ?_
    rintro e w' ⟨rfl, hk'⟩
    exact ⟨_, rfl, .inl ⟨rfl, rfl⟩, hk'⟩
  · have ho' : s.off = false := by simpa using ho
    by_cases h64 : B.length % 64 ≠ 0
    · have hr : s.writeR n a B = (s, 2) := by simp [DS.writeR, ho', h64]
      rw [hr]
      refine (refWrite_arg w s ro rl rc a bo B.length bc ho' hbl h64).mono ?_
      rintro e w' ⟨rfl, hk'⟩
      exact ⟨_, rfl, .inl ⟨rfl, rfl⟩, hk'⟩
    · have hm : B.length = 64 * (B.length / 64) := by omega
      obtain ⟨m, hme⟩ : ∃ m, m = B.length / 64 := ⟨_, rfl⟩
      rw [← hme] at hm
      by_cases hh : hasB n a (m : Int) = false
      · have hr : s.writeR n a B = (s, 11) := by simp [DS.writeR, ho', ← hme, hh]; omega
        rw [hr, hm]
        refine (refWrite_range w s n hl hn ro rl rc a ha bo m bc (by omega) ho' hh).mono ?_
        rintro e w' ⟨rfl, hk'⟩
        exact ⟨_, rfl, .inl ⟨rfl, rfl⟩, hk'⟩
      · have hh' : hasB n a (m : Int) = true := by simpa using hh
        by_cases hz : s.left = 0
        · have hr : s.writeR n a B = (s.spent, 10) := by
            unfold DS.writeR; rw [if_neg (by simp [ho']), if_neg h64, ← hme, if_neg hh, if_pos hz]
          rw [hr, hm]
          refine (refWrite_limit w s n hl hn ro rl rc a ha bo m bc (by omega) ho' hh' hz hc).mono ?_
          rintro e w' ⟨rfl, hk'⟩
          exact ⟨_, rfl, .inl ⟨rfl, s.spent_ws.1⟩, hk'⟩
        · have hr : s.writeR n a B = (s.written a.toNat B m, 0) := by
            unfold DS.writeR; rw [if_neg (by simp [ho']), if_neg h64, ← hme, if_neg hh, if_neg hz]
          obtain ⟨x, y, rfl, hy, hxy⟩ := hasB_of hh'
          obtain rfl : m = y := by omega
          rw [hr, hm]
          refine (refWrite_ok w s n hl hn _ how x m bc bo B hm hBb (by omega) (fun h0 => ?_) hxy ho' hz l1 l2 hc (by omega)).mono ?_
          · obtain ⟨sb, so, e1, e2⟩ := hsrc (by omega)
            exact ⟨sb, so, e1, hk.cells e2 (fun h => h)⟩
          · rintro e w' ⟨rv', rfl, hrow, hk'⟩
            exact ⟨rv', rfl, .inr hrow, hk'⟩

theorem refFlushR (w : World) (s : DS) (n : Nat) (hl : s.st.length = 64 * n) (hn : n ≤ 4096) (rv : Value) (how : w.ownsRow 0 74 2 rv s.ws.length (flatR s.ws)) (hw : ∀ p ∈ s.ws, okWait n p) (hB : ∀ v ∈ s.st, isByte v) (l1 : -1 ≤ s.left) (l2 : s.left ≤ 9223372036854775807) (hc : s.calls < 4611686018427387904) :
    Calls Try.prog 22 #[refA s rv] w fun e w' => ∃ rv', e = .returned (.tuple #[refA s.flushed rv', .int .i64 s.errF]) ∧ rowStep w w' rv s.ws rv' s.flushed.ws ∧ Kept (fun _ => False) w w' := by
  obtain ⟨ro, rl, rc, rfl⟩ := ownsRow_slice how
  by_cases ho : s.off = true
  · refine (refFlush_off w s ro rl rc ho).mono ?_
    rintro e w' ⟨rfl, hk'⟩
    exact ⟨_, by simp [DS.flushed, DS.errF, ho], .inl ⟨rfl, by simp [DS.flushed, ho]⟩, hk'⟩
  · have ho' : s.off = false := by simpa using ho
    by_cases hz : s.left = 0
    · refine (refFlush_limit w s ro rl rc ho' hz l1 l2 hc).mono ?_
      rintro e w' ⟨rfl, hk'⟩
      exact ⟨_, by simp [DS.flushed, DS.errF, DS.errS, ho', hz], .inl ⟨rfl, by simp [DS.flushed, ho', hz, s.spent_ws.1]⟩, hk'⟩
    · refine (refFlush_ok w s n hl hn _ how hw hB ho' hz l1 l2 hc).mono ?_
      rintro e w' ⟨rfl, hk'⟩
      have hf : s.flushed = { s.spent with st := s.view, ws := [] } := by simp [DS.flushed, ho', hz]
      rw [hf]
      exact ⟨_, by simp [DS.errF, DS.errS, ho', hz], .inr (World.ownsRow_nil _ _ _ _), hk'⟩

theorem Dv.crashR {w0 w : World} {b n : Nat} {s : DS} {G : List (Nat × List Value × TypeId)} (h : Dv w0 w b n s G) (kv : Value) (ks : List Bool) (hkeep : keepIs w0 kv ks (fun k => w0.heap.size ≤ k)) :
    Calls Try.prog 10 #[.pointer (some ⟨b, 0, none⟩), kv] w fun e w' => e = .returned (.tuple #[]) ∧ Dv w0 w' b n (s.crashed ks) G := by
  refine h.step (fun F hd hF => crash_at w b n s F hd kv ks ?_)
  obtain ⟨ao, cap, h1, h2, h3⟩ := hkeep.kept h.kept (fun _ _ h => h.elim)
  refine ⟨ao, cap, h1, h2, fun i hi => ?_⟩
  obtain ⟨kb, ko, e1, e2, e3⟩ := h3 i hi
  exact ⟨kb, ko, e1, e2, fun hf => e3 (hF kb hf)⟩

theorem keepIs.weak {w : World} {kv : Value} {ks : List Bool} {S : Nat → Prop} (h : keepIs w kv ks S) : keepIs w kv ks (fun _ => False) := by
  obtain ⟨ao, cap, h1, h2, h3⟩ := h
  refine ⟨ao, cap, h1, h2, fun i hi => ?_⟩
  obtain ⟨kb, ko, e1, e2, e3⟩ := h3 i hi
  exact ⟨kb, ko, e1, e2, fun h => h⟩

theorem Dv.turnR {w0 w : World} {b n : Nat} {s : DS} {G : List (Nat × List Value × TypeId)} (h : Dv w0 w b n s G) (a m : Int) (ha : a ≤ 9223372036854775807) :
    Calls Try.prog 13 #[.pointer (some ⟨b, 0, none⟩), .int .i64 a, .int .i64 m] w fun e w' => e = .returned (.int .i64 (s.turnR n a m).2) ∧ Dv w0 w' b n (s.turnR n a m).1 G := by
  refine h.step (fun F hd hF => ?_)
  by_cases hb : hasB n a 1 = false ∨ m < 0 ∨ 511 < m
  · have hr : s.turnR n a m = (s, 11) := by unfold DS.turnR; rw [if_pos hb]
    rw [hr]
    refine (turn_bad w b n s F hd a m ha hb).mono ?_
    rintro e w' ⟨rfl, rfl⟩
    exact ⟨rfl, DevStep.refl hd⟩
  · have hr : s.turnR n a m = (s.turned a.toNat m.toNat, 0) := by unfold DS.turnR; rw [if_neg hb]
    have hh : hasB n a 1 = true := by
      by_cases h0 : hasB n a 1 = true
      · exact h0
      · exact absurd (.inl (by simpa using h0)) hb
    have hm : 0 ≤ m ∧ m < 512 := by
      refine ⟨?_, ?_⟩
      · by_cases h0 : m < 0
        · exact absurd (.inr (.inl h0)) hb
        · omega
      · by_cases h0 : 511 < m
        · exact absurd (.inr (.inr h0)) hb
        · omega
    obtain ⟨x, y, rfl, hy, hxy⟩ := hasB_of hh
    obtain ⟨z, rfl⟩ : ∃ z : Nat, m = z := ⟨m.toNat, by omega⟩
    rw [hr]
    exact turn_ok w b n s F hd x z (by omega) (by omega)

theorem refTurnR (w : World) (s : DS) (n : Nat) (hl : s.st.length = 64 * n) (hn : n ≤ 4096) (hB : ∀ v ∈ s.st, isByte v) (rv : Value) (how : w.ownsRow 0 74 2 rv s.ws.length (flatR s.ws)) (a m : Int) (ha : a ≤ 9223372036854775807) :
    Calls Try.prog 24 #[refA s rv, .int .i64 a, .int .i64 m] w fun e w' => ∃ rv', e = .returned (.tuple #[refA (s.turnR n a m).1 rv', .int .i64 (s.turnR n a m).2]) ∧ rowStep w w' rv s.ws rv' (s.turnR n a m).1.ws ∧ Kept (fun _ => False) w w' := by
  obtain ⟨ro, rl, rc, rfl⟩ := ownsRow_slice how
  by_cases hb : hasB n a 1 = false ∨ m < 0 ∨ 511 < m
  · have hr : s.turnR n a m = (s, 11) := by unfold DS.turnR; rw [if_pos hb]
    rw [hr]
    refine (refTurn_bad w s n hl hn ro rl rc a m ha hb).mono ?_
    rintro e w' ⟨rfl, hk'⟩
    exact ⟨_, rfl, .inl ⟨rfl, rfl⟩, hk'⟩
  · have hr : s.turnR n a m = (s.turned a.toNat m.toNat, 0) := by unfold DS.turnR; rw [if_neg hb]
    have hh : hasB n a 1 = true := by
      by_cases h0 : hasB n a 1 = true
      · exact h0
      · exact absurd (.inl (by simpa using h0)) hb
    have hm : 0 ≤ m ∧ m < 512 := by
      refine ⟨?_, ?_⟩
      · by_cases h0 : m < 0
        · exact absurd (.inr (.inl h0)) hb
        · omega
      · by_cases h0 : 511 < m
        · exact absurd (.inr (.inr h0)) hb
        · omega
    obtain ⟨x, y, rfl, hy, hxy⟩ := hasB_of hh
    obtain ⟨z, rfl⟩ : ∃ z : Nat, m = z := ⟨m.toNat, by omega⟩
    rw [hr]
    refine (refTurn_ok w s n hl hn hB ro rl rc x z (by omega) (by omega)).mono ?_
    rintro e w' ⟨rfl, hk'⟩
    exact ⟨_, rfl, .inl ⟨rfl, rfl⟩, hk'⟩

end Go.Proofs.Ytjepiaacaemkhaa
