/-
  A device in memory with its footprint; the small calls on it.
-/
import Derived.Test.YtnlcmgdeohbmoaaJ20
import Derived.Test.YtnlcmgdeohbmoaaJ21
namespace Go.Proofs.Ytnlcmgdeohbmoaa.D
open Go.RowKit
set_option linter.unusedSimpArgs false
set_option linter.unusedVariables false
set_option maxRecDepth 100000

structure DevIs (w : World) (b bs : Nat) (wv : Value) (n : Nat) (s : DS) : Prop where
  n1 : 1 ≤ n
  n2 : n ≤ 4096
  hb : Blk w b [.slice (some ⟨bs, 0, none⟩) n n, wv, .int .i64 s.calls, .int .i64 s.left, .bool s.off] 72
  hs : Blk w bs s.st 129
  hw : w.ownsRow 0 131 65 wv s.ws.length (flat s.ws)
  hl : s.st.length = 64 * n
  hB : ∀ v ∈ s.st, isByte v
  ok : ∀ p ∈ s.ws, okWait n p
  l1 : -1 ≤ s.left
  l2 : s.left ≤ 9223372036854775807

/-- The device's own blocks. -/
def foot (b bs : Nat) (wv : Value) (k : Nat) : Prop := k = b ∨ k = bs ∨ wv.ownBlock = some k

/-- A device at block b, of n sectors, in state s; its blocks are those of F. -/
def DevAt (w : World) (b n : Nat) (s : DS) (F : Nat → Prop) : Prop := ∃ bs wv, DevIs w b bs wv n s ∧ ∀ k, F k ↔ foot b bs wv k

/-- A step of the device: nothing else is touched; its blocks afterwards were its own before, or are new. -/
def DevStep (w w' : World) (b n : Nat) (s' : DS) (F : Nat → Prop) : Prop := Kept F w w' ∧ ∃ F', DevAt w' b n s' F' ∧ ∀ k, F' k → F k ∨ w.heap.size ≤ k

theorem ownsRow_kept {w w' : World} {S : Nat → Prop} {base e size n : Nat} {v : Value} {xs : List Value} (h : w.ownsRow base e size v n xs) (hk : Kept S w w') (hn : ∀ k, v.ownBlock = some k → ¬ S k) : w'.ownsRow base e size v n xs := by
  refine ⟨h.1, ?_⟩
  rcases h.2 with h2 | ⟨g, cap, cur, rfl, h3, hg, h4⟩
  · exact .inl h2
  · exact .inr ⟨g, cap, cur, rfl, h3, (hk.block g (Array.getElem?_eq_some_iff.1 hg).1 (hn g rfl)).trans hg, h4⟩

theorem DevIs.kept {w w' : World} {S : Nat → Prop} {b bs n : Nat} {wv : Value} {s : DS} (h : DevIs w b bs wv n s) (hk : Kept S w w') (hn : ∀ k, foot b bs wv k → ¬ S k) : DevIs w' b bs wv n s :=
  ⟨h.n1, h.n2, hk.blk h.hb (hn _ (.inl rfl)), hk.blk h.hs (hn _ (.inr (.inl rfl))), ownsRow_kept h.hw hk (fun k e => hn k (.inr (.inr e))), h.hl, h.hB, h.ok, h.l1, h.l2⟩

theorem DevAt.kept {w w' : World} {S : Nat → Prop} {b n : Nat} {s : DS} {F : Nat → Prop} (h : DevAt w b n s F) (hk : Kept S w w') (hn : ∀ k, F k → ¬ S k) : DevAt w' b n s F := by
  obtain ⟨bs, wv, hd, hf⟩ := h
  exact ⟨bs, wv, hd.kept hk (fun k hk => hn k ((hf k).2 hk)), hf⟩

theorem DevIs.lt {w : World} {b bs n : Nat} {wv : Value} {s : DS} (h : DevIs w b bs wv n s) : ∀ k, foot b bs wv k → k < w.heap.size := by
  rintro k (rfl | rfl | e)
  · exact h.hb.lt
  · exact h.hs.lt
  · exact (h.hw.lt k e).2

theorem DevAt.lt {w : World} {b n : Nat} {s : DS} {F : Nat → Prop} (h : DevAt w b n s F) : ∀ k, F k → k < w.heap.size := by
  obtain ⟨bs, wv, hd, hf⟩ := h
  exact fun k hk => hd.lt k ((hf k).1 hk)

theorem DevStep.refl {w : World} {b n : Nat} {s : DS} {F : Nat → Prop} (h : DevAt w b n s F) : DevStep w w b n s F := ⟨Kept.refl _ _, F, h, fun _ h => .inl h⟩

/-- The blocks of the waiting sectors are no others of the device. -/
theorem DevIs.apart {w : World} {b bs n : Nat} {wv : Value} {s : DS} (h : DevIs w b bs wv n s) : b ≠ bs ∧ wv.ownBlock ≠ some b ∧ wv.ownBlock ≠ some bs := by
  refine ⟨h.hb.ne h.hs (by decide), ?_, ?_⟩
  all_goals
    intro e
    rcases h.hw.2 with ⟨rfl, _⟩ | ⟨g, cap, cur, rfl, _, hg, _⟩
    · simp [Value.ownBlock] at e
    · simp [Value.ownBlock] at e
      have hgb : Blk w g cur.toList 131 := by unfold Blk; simpa using hg
      subst e
      first
        | exact absurd rfl (hgb.ne h.hb (by decide))
        | exact absurd rfl (hgb.ne h.hs (by decide))

set_option maxHeartbeats 400000 in
theorem ready_nil (w : World) : Calls Try.prog 50 #[.pointer none] w fun e w' => e = .returned (.int .i64 1) ∧ w = w' := by
  go_enter Try.func50, Try.ntmps50
  go_wp2
  go_ret
  exact ⟨rfl, rfl⟩

set_option maxHeartbeats 400000 in
theorem ready_at (w : World) (b bs n : Nat) (wv : Value) (s : DS) (h : DevIs w b bs wv n s) :
    Calls Try.prog 50 #[.pointer (some ⟨b, 0, none⟩)] w fun e w' => e = .returned (.int .i64 (if s.off then 10 else 0)) ∧ w = w' := by
  have h4 : w.cell? ⟨b, 4, none⟩ = some (.bool s.off) := h.hb.cell 4
  clear h
  cases hoff : s.off
  all_goals
    rw [hoff] at h4
    clear hoff
    go_enter Try.func50, Try.ntmps50
    go_wp2
    go_ret
    exact ⟨rfl, rfl⟩

/-- Are m sectors from a on there? -/
def hasB (n : Nat) (a m : Int) : Bool := decide (0 ≤ a) && (decide (0 ≤ m) && decide (m ≤ n - a))

set_option maxHeartbeats 400000 in
theorem has_at (w : World) (b bs n : Nat) (wv : Value) (s : DS) (h : DevIs w b bs wv n s) (a m : Int) (ha2 : a ≤ 9223372036854775807) :
    Calls Try.prog 51 #[.pointer (some ⟨b, 0, none⟩), .int .i64 a, .int .i64 m] w fun e w' => e = .returned (.bool (hasB n a m)) ∧ w = w' := by
  have h4 : w.cell? ⟨b, 0, none⟩ = some (.slice (some ⟨bs, 0, none⟩) n n) := h.hb.cell 0
  have hn := h.n2
  clear h
  by_cases h1 : 0 ≤ a
  · by_cases h2 : 0 ≤ m
    · by_cases h3 : m ≤ n - a
      · have hB : hasB n a m = true := by simp [hasB, h1, h2, h3]
        have HB := hide hB
        clear hB
        go_enter Try.func51, Try.ntmps51
        go_wp2
        go_ret
        exact ⟨by rw [HB.out]; rfl, rfl⟩
      · have hB : hasB n a m = false := by simp [hasB, h3]
        have HB := hide hB
        clear hB
        go_enter Try.func51, Try.ntmps51
        go_wp2
        go_ret
        exact ⟨by rw [HB.out]; rfl, rfl⟩
    · have hB : hasB n a m = false := by simp [hasB, h2]
      have HB := hide hB
      clear hB
      go_enter Try.func51, Try.ntmps51
      go_wp2
      go_ret
      exact ⟨by rw [HB.out]; rfl, rfl⟩
  · have hB : hasB n a m = false := by simp [hasB, h1]
    have HB := hide hB
    clear hB
    go_enter Try.func51, Try.ntmps51
    go_wp2
    go_ret
    exact ⟨by rw [HB.out]; rfl, rfl⟩

/-- A call is spent: is it done? -/
def DS.spent (s : DS) : DS := if s.left = 0 then { s with off := true } else { s with left := if 0 < s.left then s.left - 1 else s.left, calls := s.calls + 1 }
def DS.errS (s : DS) : Int := if s.left = 0 then 10 else 0

theorem set_of_cells {w w' : World} {b : Nat} {L : List Value} {t : TypeId} (h : Blk w b L t) (e : w'.heap[b]? = w.heap[b]?) : Blk w' b L t := e.trans h

set_option maxHeartbeats 400000 in
theorem spend_at (w : World) (b bs n : Nat) (wv : Value) (s : DS) (h : DevIs w b bs wv n s) (hc : s.calls < 4611686018427387904) :
    Calls Try.prog 59 #[.pointer (some ⟨b, 0, none⟩)] w fun e w' => e = .returned (.int .i64 s.errS) ∧ Kept (fun k => k = b) w w' ∧ DevIs w' b bs wv n s.spent := by
  have h2 : w.cell? ⟨b, 2, none⟩ = some (.int .i64 s.calls) := h.hb.cell 2
  have h3 : w.cell? ⟨b, 3, none⟩ = some (.int .i64 s.left) := h.hb.cell 3
  have h4 : w.cell? ⟨b, 4, none⟩ = some (.bool s.off) := h.hb.cell 4
  have f2 : w.frozen? ⟨b, 2, none⟩ = false := h.hb.frozen 2
  have f3 : w.frozen? ⟨b, 3, none⟩ = false := h.hb.frozen 3
  have f4 : w.frozen? ⟨b, 4, none⟩ = false := h.hb.frozen 4
  have l1 := h.l1
  have l2 := h.l2
  have hap := h.apart
  have Hap := hide hap
  clear hap
  have H := hide h
  clear h
  by_cases hz : s.left = 0
  · have HE : Hid (s.errS = 10) := hide (by simp [DS.errS, hz])
    have HS : Hid (s.spent = { s with off := true }) := hide (by simp [DS.spent, hz])
    have hzb : (s.left == 0) = true := by simp [hz]
    clear hz
    go_enter Try.func59, Try.ntmps59
    go_wp2
    go_ret
    refine ⟨by rw [HE.out]; rfl, Kept.setCell (S := fun k => k = b) w _ _ rfl, ?_⟩
    rw [HS.out]
    have hk := Kept.setCell (S := fun k => k = b) w ⟨b, 4, none⟩ (.bool true) rfl
    exact ⟨H.out.n1, H.out.n2, H.out.hb.setCell 4 _, hk.blk H.out.hs (fun e => Hap.out.1 e.symm), ownsRow_kept H.out.hw hk (fun k e e2 => Hap.out.2.1 (by rw [e, e2])), H.out.hl, H.out.hB, H.out.ok, H.out.l1, H.out.l2⟩
  · have HE : Hid (s.errS = 0) := hide (by simp [DS.errS, hz])
    by_cases hp : 0 < s.left
    · have HS : Hid (s.spent = { s with left := s.left - 1, calls := s.calls + 1 }) := hide (by simp [DS.spent, hz, hp])
      have hzb : (s.left == 0) = false := by simp [hz]
      clear hz
      go_enter Try.func59, Try.ntmps59
      go_wp2
      go_ret
      have hk := (Kept.setCell (S := fun k => k = b) w ⟨b, 3, none⟩ (.int .i64 (s.left - 1)) rfl).trans (Kept.setCell (S := fun k => k = b) _ ⟨b, 2, none⟩ (.int .i64 (s.calls + 1)) rfl) (fun _ _ h => h)
      refine ⟨by rw [HE.out]; rfl, hk, ?_⟩
      rw [HS.out]
      exact ⟨H.out.n1, H.out.n2, (H.out.hb.setCell 3 _).setCell 2 _, hk.blk H.out.hs (fun e => Hap.out.1 e.symm), ownsRow_kept H.out.hw hk (fun k e e2 => Hap.out.2.1 (by rw [e, e2])), H.out.hl, H.out.hB, H.out.ok, by show -1 ≤ s.left - 1; omega, by show s.left - 1 ≤ _; omega⟩
    · have HS : Hid (s.spent = { s with calls := s.calls + 1 }) := hide (by simp [DS.spent, hz, hp])
      have hzb : (s.left == 0) = false := by simp [hz]
      clear hz
      go_enter Try.func59, Try.ntmps59
      go_wp2
      go_ret
      have hk := (Kept.setCell (S := fun k => k = b) w ⟨b, 2, none⟩ (.int .i64 (s.calls + 1)) rfl)
      refine ⟨by rw [HE.out]; rfl, hk, ?_⟩
      rw [HS.out]
      exact ⟨H.out.n1, H.out.n2, H.out.hb.setCell 2 _, hk.blk H.out.hs (fun e => Hap.out.1 e.symm), ownsRow_kept H.out.hw hk (fun k e e2 => Hap.out.2.1 (by rw [e, e2])), H.out.hl, H.out.hB, H.out.ok, H.out.l1, H.out.l2⟩

end Go.Proofs.Ytnlcmgdeohbmoaa.D

/-
  The calls on a device: New, Size, Waiting, Calls, Off, Limit, Image, Read, Flush, Crash.
-/
namespace Go.Proofs.Ytnlcmgdeohbmoaa.D
open Go.RowKit
set_option linter.unusedSimpArgs false
set_option linter.unusedVariables false
set_option maxRecDepth 100000

def DS.view (s : DS) : List Value := Go.Proofs.Ytnlcmgdeohbmoaa.D.view s.ws s.st s.ws.length
/-- A new device. -/
def DS.new (n : Nat) : DS := { st := List.replicate (n * 64) (.int .u8 0), ws := [], calls := 0, left := -1, off := false }
def DS.flushed (s : DS) : DS := if s.off then s else if s.left = 0 then s.spent else { s.spent with st := s.view, ws := [] }
def DS.errF (s : DS) : Int := if s.off then 10 else s.errS
def DS.crashed (s : DS) (ks : List Bool) : DS := { s with st := laidTo (fun i => ks.getD i false) s.ws s.st s.ws.length, ws := [], off := false, left := -1 }

theorem DevAt.step_b {w w' : World} {b bs n : Nat} {wv : Value} {s' : DS} {F : Nat → Prop} (hf : ∀ k, F k ↔ foot b bs wv k) (hk : Kept F w w') (wv' : Value) (hd : DevIs w' b bs wv' n s') (hw : ∀ k, wv'.ownBlock = some k → F k ∨ w.heap.size ≤ k) : DevStep w w' b n s' F :=
  ⟨hk, foot b bs wv', ⟨bs, wv', hd, fun _ => Iff.rfl⟩, fun k h => by
    rcases h with rfl | rfl | e
    · exact .inl ((hf _).2 (.inl rfl))
    · exact .inl ((hf _).2 (.inr (.inl rfl)))
    · exact hw k e⟩

set_option maxHeartbeats 400000 in
theorem new_at (w : World) (n : Nat) (h1 : 1 ≤ n) (h2 : n ≤ 4096) :
    Calls Try.prog 7 #[.int .i64 n] w fun e w' => e = .returned (.tuple #[.pointer (some ⟨w.heap.size + 1, 0, none⟩), .int .i64 0]) ∧ Kept (fun _ => False) w w' ∧
      DevAt w' (w.heap.size + 1) n (DS.new n) (fun k => k = w.heap.size + 1 ∨ k = w.heap.size) := by
  obtain ⟨i70, hi70, hz70, hs70, hb70⟩ := info_parts Try.info129
  have Hi70 := hide hi70
  have Hz70 := hide hz70
  have Hs70 := hide hs70
  have Hb70 := hide hb70
  clear hi70 hz70 hs70 hb70
  go_enter Try.func7, Try.ntmps7
  go_wp2_with ((with_reducible refine aw_make (n := n) 64 (by decide) Try.underlying69 Hi70.out Hz70.out rfl Hs70.out rfl rfl (by rw [Hb70.out]; omega) (by unfold maxLen; omega) ?_); intro w1 hw1 hk1 hz1)
  go_ret2
  refine ⟨rfl, hk1.trans (Kept.alloc (fun _ => False) w1 _) (fun _ _ h => h), w.heap.size, .slice none 0 0, ?_, fun k => ?_⟩
  · have hk := Kept.alloc (fun _ => False) w1 (.cells #[.slice (some ⟨w.heap.size, 0, none⟩) n n, .slice none 0 0, .int .i64 0, .int .i64 (-1), .bool false] 72)
    refine ⟨h1, h2, ?_, hk.blk hw1 (fun h => h), World.ownsRow_nil _ _ _ _, by simp [DS.new]; omega, ?_, by simp [DS.new], by simp [DS.new], by simp [DS.new]⟩
    · rw [← hz1]
      exact Blk.newA w1 #[.slice (some ⟨w.heap.size, 0, none⟩) n n, .slice none 0 0, .int .i64 0, .int .i64 (-1), .bool false] 72
    · intro v hv
      simp [DS.new] at hv
      rw [hv.2]
      exact isByte.zero
  · simp [foot, Value.ownBlock]

set_option maxHeartbeats 400000 in
theorem size_at (w : World) (b n : Nat) (s : DS) (F : Nat → Prop) (h : DevAt w b n s F) : Calls Try.prog 27 #[.pointer (some ⟨b, 0, none⟩)] w fun e w' => e = .returned (.int .i64 n) ∧ w = w' := by
  obtain ⟨bs, wv, hd, hf⟩ := h
  have c : w.cell? ⟨b, 0, none⟩ = some (.slice (some ⟨bs, 0, none⟩) n n) := hd.hb.cell 0
  clear hd hf
  go_enter Try.func27, Try.ntmps27
  go_wp2
  go_ret
  exact ⟨rfl, rfl⟩

set_option maxHeartbeats 400000 in
theorem limit_at (w : World) (b n : Nat) (s : DS) (F : Nat → Prop) (h : DevAt w b n s F) (m : Int) (hm : m ≤ 9223372036854775807) :
    Calls Try.prog 25 #[.pointer (some ⟨b, 0, none⟩), .int .i64 m] w fun e w' => e = .returned (.tuple #[]) ∧ DevStep w w' b n { s with left := max m (-1) } F := by
  obtain ⟨bs, wv, hd, hf⟩ := h
  have c : w.cell? ⟨b, 3, none⟩ = some (.int .i64 s.left) := hd.hb.cell 3
  have f : w.frozen? ⟨b, 3, none⟩ = false := hd.hb.frozen 3
  have H := hide hd
  have HF := hide hf
  clear hd hf
  go_enter Try.func25, Try.ntmps25
  go_wp2
  all_goals
    go_end0
    refine ⟨rfl, ?_⟩
    have hap := H.out.apart
    have hk := Kept.setCell (S := fun k => k = b) w ⟨b, 3, none⟩ (.int .i64 (max m (-1))) rfl
    have hd2 : DevIs (w.setCell ⟨b, 3, none⟩ (.int .i64 (max m (-1)))) b bs wv n { s with left := max m (-1) } :=
      ⟨H.out.n1, H.out.n2, H.out.hb.setCell 3 _, hk.blk H.out.hs (fun e => hap.1 e.symm), ownsRow_kept H.out.hw hk (fun k e e2 => hap.2.1 (by rw [e, e2])), H.out.hl, H.out.hB, H.out.ok, by show -1 ≤ max m (-1); omega, by show max m (-1) ≤ _; omega⟩
    have := DevAt.step_b HF.out (hk.mono (fun k _ e => (HF.out k).2 (.inl e))) wv hd2 (fun k e => .inl ((HF.out k).2 (.inr (.inr e))))
    first
      | exact this
      | (rw [show max m (-1) = m by omega] at this ⊢; exact this)
      | (rw [show max m (-1) = -1 by omega] at this ⊢; exact this)

set_option maxHeartbeats 400000 in
theorem image_at (w : World) (b n : Nat) (s : DS) (F : Nat → Prop) (h : DevAt w b n s F) :
    Calls Try.prog 26 #[.pointer (some ⟨b, 0, none⟩)] w fun e w' => e = .returned (.slice (some ⟨w.heap.size, 0, none⟩) (n * 64) (n * 64)) ∧ Blk w' w.heap.size s.st 5 ∧ Kept (fun _ => False) w w' := by
  obtain ⟨bs, wv, hd, hf⟩ := h
  have c : w.cell? ⟨b, 0, none⟩ = some (.slice (some ⟨bs, 0, none⟩) n n) := hd.hb.cell 0
  have H := hide hd
  clear hd hf
  go_enter Try.func26, Try.ntmps26
  go_wp2_with (go_at_call 48; refine (join_at w bs n n s.st H.out.hl H.out.n2 H.out.hs H.out.hB).mono ?_; rintro e w1 ⟨rfl, h1, h2⟩)
  go_ret
  exact ⟨rfl, h1, h2⟩

set_option maxHeartbeats 400000 in
theorem read_off (w : World) (b n : Nat) (s : DS) (F : Nat → Prop) (h : DevAt w b n s F) (a m : Int) (ho : s.off = true) :
    Calls Try.prog 30 #[.pointer (some ⟨b, 0, none⟩), .int .i64 a, .int .i64 m] w fun e w' => e = .returned (.tuple #[.slice none 0 0, .int .i64 10]) ∧ w = w' := by
  obtain ⟨bs, wv, hd, hf⟩ := h
  have HR := hide (ready_at w b bs n wv s hd)
  have HO := hide ho
  clear hd hf ho
  go_enter Try.func30, Try.ntmps30
  go_wp2_with (go_at_call 50; refine HR.out.mono ?_; rintro e w' ⟨rfl, rfl⟩; rw [HO.out]; simp only [if_true])
  go_ret2
  exact ⟨rfl, rfl⟩

set_option maxHeartbeats 400000 in
theorem read_range (w : World) (b n : Nat) (s : DS) (F : Nat → Prop) (h : DevAt w b n s F) (a m : Int) (ha : a ≤ 9223372036854775807) (ho : s.off = false) (hh : hasB n a m = false) :
    Calls Try.prog 30 #[.pointer (some ⟨b, 0, none⟩), .int .i64 a, .int .i64 m] w fun e w' => e = .returned (.tuple #[.slice none 0 0, .int .i64 11]) ∧ w = w' := by
  obtain ⟨bs, wv, hd, hf⟩ := h
  have HR := hide (ready_at w b bs n wv s hd)
  have HH := hide (has_at w b bs n wv s hd a m ha)
  have HO := hide ho
  have HN := hide hh
  clear hd hf ho hh
  go_enter Try.func30, Try.ntmps30
  go_wp2_with (first
    | (go_at_call 50; refine HR.out.mono ?_; rintro e w' ⟨rfl, rfl⟩; rw [HO.out]; simp only [Bool.false_eq_true, if_false])
    | (go_at_call 51; refine HH.out.mono ?_; rintro e w' ⟨rfl, rfl⟩; rw [HN.out]))
  go_ret2
  exact ⟨rfl, rfl⟩

theorem hasB_nat (n a m : Nat) (h : a + m ≤ n) : hasB n a m = true := by
  simp [hasB]; omega

set_option maxHeartbeats 400000 in
theorem read_ok (w : World) (b n : Nat) (s : DS) (F : Nat → Prop) (h : DevAt w b n s F) (a m : Nat) (ho : s.off = false) (hh : a + m ≤ n) :
    Calls Try.prog 30 #[.pointer (some ⟨b, 0, none⟩), .int .i64 a, .int .i64 m] w fun e w' => ∃ g, e = .returned (.tuple #[.slice (some ⟨g, 0, none⟩) (m * 64) (m * 64), .int .i64 0]) ∧ Blk w' g (part s.view a m) 5 ∧ Kept (fun _ => False) w w' ∧ w.heap.size ≤ g := by
  obtain ⟨bs, wv, hd, hf⟩ := h
  have hn2 := hd.n2
  have HR := hide (ready_at w b bs n wv s hd)
  have HH := hide (has_at w b bs n wv s hd a m (by omega))
  have HO := hide ho
  have HN := hide (hasB_nat n a m hh)
  have HS := hide (seen_at w b bs n a m wv _ _ _ s.st s.ws hd.n2 hh hd.hb hd.hs hd.hw hd.hl hd.hB hd.ok)
  have hok := laidTo_ok (fun _ => true) n s.ws s.st hd.ok hd.hl hd.hB s.ws.length (Nat.le_refl _)
  have hpl : (part s.view a m).length = 64 * m := part_length _ n a m hok.1 hh
  have hpb : ∀ v ∈ part s.view a m, isByte v := fun v hv => hok.2 v (List.mem_of_mem_drop (List.mem_of_mem_take hv))
  have HP := hide hpl
  have HB := hide hpb
  clear hd hf ho hok hpl hpb
  go_enter Try.func30, Try.ntmps30
  go_wp2_with (first
    | (go_at_call 50; refine HR.out.mono ?_; rintro e w' ⟨rfl, rfl⟩; rw [HO.out]; simp only [Bool.false_eq_true, if_false])
    | (go_at_call 51; refine HH.out.mono ?_; rintro e w' ⟨rfl, rfl⟩; rw [HN.out])
    | (go_at_call 52; refine HS.out.mono ?_; rintro e w1 ⟨rfl, hk1, hb1⟩)
    | (go_at_call 48; refine (join_at w1 w.heap.size m m (part s.view a m) HP.out (by omega) hb1 HB.out).mono ?_; rintro e w2 ⟨rfl, hb2, hk2⟩))
  go_ret2
  exact ⟨_, rfl, hb2, hk1.trans hk2 (fun _ _ h => h), hk1.size⟩

theorem DS.spent_ws (s : DS) : s.spent.ws = s.ws ∧ s.spent.st = s.st := by unfold DS.spent; split <;> exact ⟨rfl, rfl⟩

set_option maxHeartbeats 400000 in
theorem flush1_any (i : Nat) (w : World) : Calls Try.prog 61 #[.int .i64 i] w fun e w' => e = .returned (.bool true) ∧ w = w' := by
  go_enter Try.func61, Try.ntmps61
  go_wp2
  go_ret
  exact ⟨rfl, rfl⟩

set_option maxHeartbeats 400000 in
theorem flush_at (w : World) (b n : Nat) (s : DS) (F : Nat → Prop) (h : DevAt w b n s F) (hc : s.calls < 4611686018427387904) :
    Calls Try.prog 37 #[.pointer (some ⟨b, 0, none⟩)] w fun e w' => e = .returned (.int .i64 s.errF) ∧ DevStep w w' b n s.flushed F := by
  obtain ⟨bs, wv, hd, hf⟩ := h
  have HR := hide (ready_at w b bs n wv s hd)
  have HSp := hide (spend_at w b bs n wv s hd hc)
  have HF := hide hf
  have HD := hide hd
  clear hd hf
  cases ho : s.off
  · have HO := hide ho
    clear ho
    by_cases hz : s.left = 0
    · have HE : Hid (s.errF = 10) := hide (by simp [DS.errF, DS.errS, HO.out, hz])
      have HE2 : Hid (s.errS = 10) := hide (by simp [DS.errS, hz])
      have HFl : Hid (s.flushed = s.spent) := hide (by simp [DS.flushed, HO.out, hz])
      clear hz
      go_enter Try.func37, Try.ntmps37
      go_wp2_with (first
        | (go_at_call 50; refine HR.out.mono ?_; rintro e w' ⟨rfl, rfl⟩; rw [HO.out]; simp only [Bool.false_eq_true, if_false])
        | (go_at_call 59; refine HSp.out.mono ?_; rintro e w1 ⟨rfl, hk1, hd1⟩; rw [HE2.out]))
      go_ret
      refine ⟨by rw [HE.out]; rfl, ?_⟩
      rw [HFl.out]
      exact DevAt.step_b HF.out (hk1.mono (fun k _ e => (HF.out k).2 (.inl e))) wv hd1 (fun k e => .inl ((HF.out k).2 (.inr (.inr e))))
    · have HE : Hid (s.errF = 0) := hide (by simp [DS.errF, DS.errS, HO.out, hz])
      have HE2 : Hid (s.errS = 0) := hide (by simp [DS.errS, hz])
      have HFl : Hid (s.flushed = { s.spent with st := s.view, ws := [] }) := hide (by simp [DS.flushed, HO.out, hz])
      clear hz
      go_enter Try.func37, Try.ntmps37
      go_wp2_with (first
        | (go_at_call 50; refine HR.out.mono ?_; rintro e w' ⟨rfl, rfl⟩; rw [HO.out]; simp only [Bool.false_eq_true, if_false])
        | (go_at_call 59; refine HSp.out.mono ?_; rintro e w1 ⟨rfl, hk1, hd1⟩; rw [HE2.out])
        | (go_at_call 46; refine (settle_33 w1 b bs n wv _ _ _ s.spent.st s.spent.ws (fun _ => true) hd1.n2 hd1.hb hd1.hs hd1.hw hd1.hl hd1.hB hd1.ok (fun i W _ _ => flush1_any i W)).mono ?_; rintro e w2 ⟨rfl, hk2, hb2, hs2⟩))
      go_ret
      refine ⟨by rw [HE.out]; rfl, ?_⟩
      rw [HFl.out]
      have hk : Kept F w w2 := (hk1.mono (T := F) (fun k _ e => (HF.out k).2 (.inl e))).trans hk2 (fun k _ e => (HF.out k).2 (e.elim .inl (fun h => .inr (.inl h))))
      refine DevAt.step_b HF.out hk (.slice none 0 0) ?_ (fun k e => by simp [Value.ownBlock] at e)
      have hv : laidTo (fun _ => true) s.spent.ws s.spent.st s.spent.ws.length = s.view := by rw [s.spent_ws.1, s.spent_ws.2]; rfl
      rw [hv] at hs2
      have hok := laidTo_ok (fun _ => true) n s.ws s.st HD.out.ok HD.out.hl HD.out.hB s.ws.length (Nat.le_refl _)
      exact ⟨hd1.n1, hd1.n2, hb2, hs2, World.ownsRow_nil _ _ _ _, hok.1, hok.2, fun p hp => by simp at hp, hd1.l1, hd1.l2⟩
  · have HO := hide ho
    clear ho
    have HE : Hid (s.errF = 10) := hide (by simp [DS.errF, HO.out])
    have HFl : Hid (s.flushed = s) := hide (by simp [DS.flushed, HO.out])
    go_enter Try.func37, Try.ntmps37
    go_wp2_with (go_at_call 50; refine HR.out.mono ?_; rintro e w' ⟨rfl, rfl⟩; rw [HO.out]; simp only [if_true])
    go_ret
    refine ⟨by rw [HE.out]; rfl, ?_⟩
    rw [HFl.out]
    exact DevStep.refl ⟨bs, wv, HD.out, HF.out⟩

/-- A slice of bools that lies outside S. -/
def keepIs (w : World) (kv : Value) (ks : List Bool) (S : Nat → Prop) : Prop :=
  ∃ ao cap, kv = .slice ao ks.length cap ∧ ks.length ≤ 9223372036854775807 ∧ ∀ i, i < ks.length → ∃ kb ko, ao = some ⟨kb, ko, none⟩ ∧ w.cell? ⟨kb, ko + i, none⟩ = some (.bool (ks.getD i false)) ∧ ¬ S kb

theorem _root_.Go.Proofs.Ytnlcmgdeohbmoaa.Kept.cell {S : Nat → Prop} {w w' : World} (h : Kept S w w') {a : Addr} {v : Value} (hc : w.cell? a = some v) (hn : ¬ S a.block) : w'.cell? a = some v :=
  (World.cell?_of_block (h.block a.block (World.block_lt_of_cell? w a hc) hn)).trans hc

theorem keepIs.kept {w w' : World} {kv : Value} {ks : List Bool} {S T : Nat → Prop} (h : keepIs w kv ks S) (hk : Kept T w w') (hT : ∀ k, k < w.heap.size → T k → S k) : keepIs w' kv ks S := by
  obtain ⟨ao, cap, h1, h2, h3⟩ := h
  refine ⟨ao, cap, h1, h2, fun i hi => ?_⟩
  obtain ⟨kb, ko, e1, e2, e3⟩ := h3 i hi
  exact ⟨kb, ko, e1, hk.cell e2 (fun t => e3 (hT kb (World.block_lt_of_cell? w _ e2) t)), e3⟩

set_option maxHeartbeats 400000 in
theorem crash1_any (i kb : Nat) (w : World) (kv : Value) (ks : List Bool) (S : Nat → Prop) (hb : Blk w kb [kv] 35) (hk : keepIs w kv ks S) (hi : i ≤ 9223372036854775807) :
    Calls Try.prog 47 #[.int .i64 i, .pointer (some ⟨kb, 0, none⟩)] w fun e w' => e = .returned (.bool (ks.getD i false)) ∧ w = w' := by
  obtain ⟨ao, cap, rfl, hlen, h3⟩ := hk
  have c : w.cell? ⟨kb, 0, none⟩ = some (.slice ao ks.length cap) := hb.cell 0
  clear hb
  by_cases hlt : i < ks.length
  · obtain ⟨kb2, ko, rfl, e2, _⟩ := h3 i hlt
    have H3 := hide h3
    clear h3
    obtain ⟨v, hv⟩ : ∃ v, ks.getD i false = v := ⟨_, rfl⟩
    rw [hv] at e2 ⊢
    have HV := hide hv
    clear hv
    go_enter Try.func47, Try.ntmps47
    go_wp2
    go_ret
    exact ⟨rfl, rfl⟩
  · have HV : Hid (ks.getD i false = false) := hide (by simp [List.getD, List.getElem?_eq_none (show ks.length ≤ i by omega)])
    clear h3
    go_enter Try.func47, Try.ntmps47
    go_wp2
    go_ret
    exact ⟨by rw [HV.out]; rfl, rfl⟩

set_option maxHeartbeats 1000000 in
theorem crash_at (w : World) (b n : Nat) (s : DS) (F : Nat → Prop) (h : DevAt w b n s F) (kv : Value) (ks : List Bool) (hkeep : keepIs w kv ks F) :
    Calls Try.prog 24 #[.pointer (some ⟨b, 0, none⟩), kv] w fun e w' => e = .returned (.tuple #[]) ∧ DevStep w w' b n (s.crashed ks) F := by
  have hlt := h.lt
  obtain ⟨bs, wv, hd, hf⟩ := h
  have HK := hide hkeep
  obtain ⟨ao, kcap, rfl, _⟩ := hkeep
  have hk1 := Kept.alloc (fun _ => False) w (.cells #[.slice ao ks.length kcap] 35)
  have hd1 := hd.kept hk1 (fun _ _ h => h)
  have hbx : Blk (w.alloc (.cells #[.slice ao ks.length kcap] 35)) w.heap.size [.slice ao ks.length kcap] 35 := Blk.newA w _ 35
  have hkp1 := HK.out.kept (w' := w.alloc (.cells #[.slice ao ks.length kcap] 35)) hk1 (fun _ _ h => h.elim)
  have hap := hd.apart
  have hsl : bs < w.heap.size := hd.hs.lt
  have hfs : F bs := (hf bs).2 (.inr (.inl rfl))
  have hset := settle_30 (w.alloc (.cells #[.slice ao ks.length kcap] 35)) b bs n wv _ _ _ s.st s.ws (fun i => ks.getD i false) w.heap.size hd1.n2 hd1.hb hd1.hs hd1.hw hd1.hl hd1.hB hd1.ok
    (fun i W hi hW => crash1_any i w.heap.size W _ ks F (hW.blk hbx (fun e => by omega)) (hkp1.kept hW (fun k _ e => by rw [e]; exact hfs)) (by
      rcases hd1.hw.2 with ⟨_, hz⟩ | ⟨g, cap, cur, _, _, _, h1, h2, _⟩
      · omega
      · unfold maxLen at h2; omega))
  have HSet := hide hset
  have HF := hide hf
  have HD := hide hd
  clear hd hf hlt HK hk1 hd1 hbx hkp1 hset
  go_enter Try.func24, Try.ntmps24
  go_wp2_with (go_at_call 46; refine HSet.out.mono ?_; rintro e w2 ⟨rfl, hk2, hb2, hs2⟩; have c3 : w2.cell? ⟨b, 3, none⟩ = some (.int .i64 s.left) := hb2.cell 3; have c4 : w2.cell? ⟨b, 4, none⟩ = some (.bool s.off) := hb2.cell 4; have f3 := hb2.frozen 3; have f4 := hb2.frozen 4)
  go_end0
  refine ⟨rfl, ?_⟩
  have hk34 := (Kept.setCell (S := fun k => k = b) w2 ⟨b, 4, none⟩ (.bool false) rfl).trans (Kept.setCell (S := fun k => k = b) _ ⟨b, 3, none⟩ (.int .i64 (-1)) rfl) (fun _ _ h => h)
  have hk : Kept F w ((w2.setCell ⟨b, 4, none⟩ (.bool false)).setCell ⟨b, 3, none⟩ (.int .i64 (-1))) := by
    refine (((Kept.alloc F w (.cells #[.slice ao ks.length kcap] 35)).trans hk2 (fun k _ e => ?_)).trans hk34 (fun k _ e => ?_))
    · exact (HF.out k).2 (e.elim .inl (fun h => .inr (.inl h)))
    · exact (HF.out k).2 (.inl e)
  refine DevAt.step_b HF.out hk (.slice none 0 0) ?_ (fun k e => by simp [Value.ownBlock] at e)
  have hok := laidTo_ok (fun i => ks.getD i false) n s.ws s.st HD.out.ok HD.out.hl HD.out.hB s.ws.length (Nat.le_refl _)
  exact ⟨HD.out.n1, HD.out.n2, (hb2.setCell 4 _).setCell 3 _, hk34.blk hs2 (fun e => hap.1 e.symm), World.ownsRow_nil _ _ _ _, hok.1, hok.2, fun p hp => by simp [DS.crashed] at hp, by simp [DS.crashed], by simp [DS.crashed]⟩

end Go.Proofs.Ytnlcmgdeohbmoaa.D
