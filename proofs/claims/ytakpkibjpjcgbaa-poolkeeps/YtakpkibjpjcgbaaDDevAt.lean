/-
  A device in memory with its footprint; the small calls on it.
-/
import Derived.Test.YtakpkibjpjcgbaaDSettleA
import Derived.Test.YtakpkibjpjcgbaaDSeen
namespace Go.Proofs.Ytakpkibjpjcgbaa.D
open Go.RowKit
set_option linter.unusedSimpArgs false
set_option linter.unusedVariables false
set_option maxRecDepth 100000

structure DevIs (w : World) (b bs : Nat) (wv : Value) (n : Nat) (s : DS) : Prop where
  n1 : 1 ≤ n
  n2 : n ≤ 4096
  hb : Blk w b [.slice (some ⟨bs, 0, none⟩) n n, wv, .int .i64 s.calls, .int .i64 s.left, .bool s.off] 72
  hs : Blk w bs s.st 129
  hw : w.ownsRow 0 131 65 wv s.ws.length (flat s.ws)
  hl : s.st.length = 64 * n
  hB : ∀ v ∈ s.st, isByte v
  ok : ∀ p ∈ s.ws, okWait n p
  l1 : -1 ≤ s.left
  l2 : s.left ≤ 9223372036854775807

/-- The device's own blocks. -/
def foot (b bs : Nat) (wv : Value) (k : Nat) : Prop := k = b ∨ k = bs ∨ wv.ownBlock = some k

/-- A device at block b, of n sectors, in state s; its blocks are those of F. -/
def DevAt (w : World) (b n : Nat) (s : DS) (F : Nat → Prop) : Prop := ∃ bs wv, DevIs w b bs wv n s ∧ ∀ k, F k ↔ foot b bs wv k

/-- A step of the device: nothing else is touched; its blocks afterwards were its own before, or are new. -/
def DevStep (w w' : World) (b n : Nat) (s' : DS) (F : Nat → Prop) : Prop := Kept F w w' ∧ ∃ F', DevAt w' b n s' F' ∧ ∀ k, F' k → F k ∨ w.heap.size ≤ k

theorem ownsRow_kept {w w' : World} {S : Nat → Prop} {base e size n : Nat} {v : Value} {xs : List Value} (h : w.ownsRow base e size v n xs) (hk : Kept S w w') (hn : ∀ k, v.ownBlock = some k → ¬ S k) : w'.ownsRow base e size v n xs := by
  refine ⟨h.1, ?_⟩
  rcases h.2 with h2 | ⟨g, cap, cur, rfl, h3, hg, h4⟩
  · exact .inl h2
  · exact .inr ⟨g, cap, cur, rfl, h3, (hk.block g (Array.getElem?_eq_some_iff.1 hg).1 (hn g rfl)).trans hg, h4⟩

theorem DevIs.kept {w w' : World} {S : Nat → Prop} {b bs n : Nat} {wv : Value} {s : DS} (h : DevIs w b bs wv n s) (hk : Kept S w w') (hn : ∀ k, foot b bs wv k → ¬ S k) : DevIs w' b bs wv n s :=
  ⟨h.n1, h.n2, hk.blk h.hb (hn _ (.inl rfl)), hk.blk h.hs (hn _ (.inr (.inl rfl))), ownsRow_kept h.hw hk (fun k e => hn k (.inr (.inr e))), h.hl, h.hB, h.ok, h.l1, h.l2⟩

theorem DevAt.kept {w w' : World} {S : Nat → Prop} {b n : Nat} {s : DS} {F : Nat → Prop} (h : DevAt w b n s F) (hk : Kept S w w') (hn : ∀ k, F k → ¬ S k) : DevAt w' b n s F := by
  obtain ⟨bs, wv, hd, hf⟩ := h
  exact ⟨bs, wv, hd.kept hk (fun k hk => hn k ((hf k).2 hk)), hf⟩

theorem DevIs.lt {w : World} {b bs n : Nat} {wv : Value} {s : DS} (h : DevIs w b bs wv n s) : ∀ k, foot b bs wv k → k < w.heap.size := by
  rintro k (rfl | rfl | e)
  · exact h.hb.lt
  · exact h.hs.lt
  · exact (h.hw.lt k e).2

theorem DevAt.lt {w : World} {b n : Nat} {s : DS} {F : Nat → Prop} (h : DevAt w b n s F) : ∀ k, F k → k < w.heap.size := by
  obtain ⟨bs, wv, hd, hf⟩ := h
  exact fun k hk => hd.lt k ((hf k).1 hk)

theorem DevStep.refl {w : World} {b n : Nat} {s : DS} {F : Nat → Prop} (h : DevAt w b n s F) : DevStep w w b n s F := ⟨Kept.refl _ _, F, h, fun _ h => .inl h⟩

/-- The blocks of the waiting sectors are no others of the device. -/
theorem DevIs.apart {w : World} {b bs n : Nat} {wv : Value} {s : DS} (h : DevIs w b bs wv n s) : b ≠ bs ∧ wv.ownBlock ≠ some b ∧ wv.ownBlock ≠ some bs := by
  refine ⟨h.hb.ne h.hs (by decide), ?_, ?_⟩
  all_goals
    intro e
    rcases h.hw.2 with ⟨rfl, _⟩ | ⟨g, cap, cur, rfl, _, hg, _⟩
    · simp [Value.ownBlock] at e
    · simp [Value.ownBlock] at e
      have hgb : Blk w g cur.toList 131 := by unfold Blk; simpa using hg
      subst e
      first
        | exact absurd rfl (hgb.ne h.hb (by decide))
        | exact absurd rfl (hgb.ne h.hs (by decide))

set_option maxHeartbeats 400000 in
theorem ready_nil (w : World) : Calls Try.prog 50 #[.pointer none] w fun e w' => e = .returned (.int .i64 1) ∧ w = w' := by
  go_enter Try.func50, Try.ntmps50
  go_wp2
  go_ret
  exact ⟨rfl, rfl⟩

set_option maxHeartbeats 400000 in
theorem ready_at (w : World) (b bs n : Nat) (wv : Value) (s : DS) (h : DevIs w b bs wv n s) :
    Calls Try.prog 50 #[.pointer (some ⟨b, 0, none⟩)] w fun e w' => e = .returned (.int .i64 (if s.off then 10 else 0)) ∧ w = w' := by
  have h4 : w.cell? ⟨b, 4, none⟩ = some (.bool s.off) := h.hb.cell 4
  clear h
  cases hoff : s.off
  all_goals
    rw [hoff] at h4
    clear hoff
    go_enter Try.func50, Try.ntmps50
    go_wp2
    go_ret
    exact ⟨rfl, rfl⟩

/-- Are m sectors from a on there? -/
def hasB (n : Nat) (a m : Int) : Bool := decide (0 ≤ a) && (decide (0 ≤ m) && decide (m ≤ n - a))

set_option maxHeartbeats 400000 in
theorem has_at (w : World) (b bs n : Nat) (wv : Value) (s : DS) (h : DevIs w b bs wv n s) (a m : Int) (ha2 : a ≤ 9223372036854775807) :
    Calls Try.prog 51 #[.pointer (some ⟨b, 0, none⟩), .int .i64 a, .int .i64 m] w fun e w' => e = .returned (.bool (hasB n a m)) ∧ w = w' := by
  have h4 : w.cell? ⟨b, 0, none⟩ = some (.slice (some ⟨bs, 0, none⟩) n n) := h.hb.cell 0
  have hn := h.n2
  clear h
  by_cases h1 : 0 ≤ a
  · by_cases h2 : 0 ≤ m
    · by_cases h3 : m ≤ n - a
      · have hB : hasB n a m = true := by simp [hasB, h1, h2, h3]
        have HB := hide hB
        clear hB
        go_enter Try.func51, Try.ntmps51
        go_wp2
        go_ret
        exact ⟨by rw [HB.out]; rfl, rfl⟩
      · have hB : hasB n a m = false := by simp [hasB, h3]
        have HB := hide hB
        clear hB
        go_enter Try.func51, Try.ntmps51
        go_wp2
        go_ret
        exact ⟨by rw [HB.out]; rfl, rfl⟩
    · have hB : hasB n a m = false := by simp [hasB, h2]
      have HB := hide hB
      clear hB
      go_enter Try.func51, Try.ntmps51
      go_wp2
      go_ret
      exact ⟨by rw [HB.out]; rfl, rfl⟩
  · have hB : hasB n a m = false := by simp [hasB, h1]
    have HB := hide hB
    clear hB
    go_enter Try.func51, Try.ntmps51
    go_wp2
    go_ret
    exact ⟨by rw [HB.out]; rfl, rfl⟩

/-- A call is spent: is it done? -/
def DS.spent (s : DS) : DS := if s.left = 0 then { s with off := true } else { s with left := if 0 < s.left then s.left - 1 else s.left, calls := s.calls + 1 }
def DS.errS (s : DS) : Int := if s.left = 0 then 10 else 0

theorem set_of_cells {w w' : World} {b : Nat} {L : List Value} {t : TypeId} (h : Blk w b L t) (e : w'.heap[b]? = w.heap[b]?) : Blk w' b L t := e.trans h

set_option maxHeartbeats 400000 in
theorem spend_at (w : World) (b bs n : Nat) (wv : Value) (s : DS) (h : DevIs w b bs wv n s) (hc : s.calls < 4611686018427387904) :
    Calls Try.prog 59 #[.pointer (some ⟨b, 0, none⟩)] w fun e w' => e = .returned (.int .i64 s.errS) ∧ Kept (fun k => k = b) w w' ∧ DevIs w' b bs wv n s.spent := by
  have h2 : w.cell? ⟨b, 2, none⟩ = some (.int .i64 s.calls) := h.hb.cell 2
  have h3 : w.cell? ⟨b, 3, none⟩ = some (.int .i64 s.left) := h.hb.cell 3
  have h4 : w.cell? ⟨b, 4, none⟩ = some (.bool s.off) := h.hb.cell 4
  have f2 : w.frozen? ⟨b, 2, none⟩ = false := h.hb.frozen 2
  have f3 : w.frozen? ⟨b, 3, none⟩ = false := h.hb.frozen 3
  have f4 : w.frozen? ⟨b, 4, none⟩ = false := h.hb.frozen 4
  have l1 := h.l1
  have l2 := h.l2
  have hap := h.apart
  have Hap := hide hap
  clear hap
  have H := hide h
  clear h
  by_cases hz : s.left = 0
  · have HE : Hid (s.errS = 10) := hide (by simp [DS.errS, hz])
    have HS : Hid (s.spent = { s with off := true }) := hide (by simp [DS.spent, hz])
    have hzb : (s.left == 0) = true := by simp [hz]
    clear hz
    go_enter Try.func59, Try.ntmps59
    go_wp2
    go_ret
    refine ⟨by rw [HE.out]; rfl, Kept.setCell (S := fun k => k = b) w _ _ rfl, ?_⟩
    rw [HS.out]
    have hk := Kept.setCell (S := fun k => k = b) w ⟨b, 4, none⟩ (.bool true) rfl
    exact ⟨H.out.n1, H.out.n2, H.out.hb.setCell 4 _, hk.blk H.out.hs (fun e => Hap.out.1 e.symm), ownsRow_kept H.out.hw hk (fun k e e2 => Hap.out.2.1 (by rw [e, e2])), H.out.hl, H.out.hB, H.out.ok, H.out.l1, H.out.l2⟩
  · have HE : Hid (s.errS = 0) := hide (by simp [DS.errS, hz])
    by_cases hp : 0 < s.left
    · have HS : Hid (s.spent = { s with left := s.left - 1, calls := s.calls + 1 }) := hide (by simp [DS.spent, hz, hp])
      have hzb : (s.left == 0) = false := by simp [hz]
      clear hz
      go_enter Try.func59, Try.ntmps59
      go_wp2
      go_ret
      have hk := (Kept.setCell (S := fun k => k = b) w ⟨b, 3, none⟩ (.int .i64 (s.left - 1)) rfl).trans (Kept.setCell (S := fun k => k = b) _ ⟨b, 2, none⟩ (.int .i64 (s.calls + 1)) rfl) (fun _ _ h => h)
      refine ⟨by rw [HE.out]; rfl, hk, ?_⟩
      rw [HS.out]
      exact ⟨H.out.n1, H.out.n2, (H.out.hb.setCell 3 _).setCell 2 _, hk.blk H.out.hs (fun e => Hap.out.1 e.symm), ownsRow_kept H.out.hw hk (fun k e e2 => Hap.out.2.1 (by rw [e, e2])), H.out.hl, H.out.hB, H.out.ok, by show -1 ≤ s.left - 1; omega, by show s.left - 1 ≤ _; omega⟩
    · have HS : Hid (s.spent = { s with calls := s.calls + 1 }) := hide (by simp [DS.spent, hz, hp])
      have hzb : (s.left == 0) = false := by simp [hz]
      clear hz
      go_enter Try.func59, Try.ntmps59
      go_wp2
      go_ret
      have hk := (Kept.setCell (S := fun k => k = b) w ⟨b, 2, none⟩ (.int .i64 (s.calls + 1)) rfl)
      refine ⟨by rw [HE.out]; rfl, hk, ?_⟩
      rw [HS.out]
      exact ⟨H.out.n1, H.out.n2, H.out.hb.setCell 2 _, hk.blk H.out.hs (fun e => Hap.out.1 e.symm), ownsRow_kept H.out.hw hk (fun k e e2 => Hap.out.2.1 (by rw [e, e2])), H.out.hl, H.out.hB, H.out.ok, H.out.l1, H.out.l2⟩

end Go.Proofs.Ytakpkibjpjcgbaa.D
