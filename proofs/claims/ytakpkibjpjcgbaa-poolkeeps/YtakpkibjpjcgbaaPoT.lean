/-
  Pools in memory; has, Drop, Dirty.
-/
import Derived.Test.YtakpkibjpjcgbaaGetP
import Derived.Test.YtakpkibjpjcgbaaIFrom
import Derived.Test.YtakpkibjpjcgbaaDWr
namespace Go.Proofs.Ytakpkibjpjcgbaa
open Go.RowKit Go.Shelf
set_option linter.unusedSimpArgs false
set_option linter.unusedVariables false
set_option maxRecDepth 100000

/-- A pool's numbers, and its two orders. -/
structure PL where
  fr : Nat
  n : Nat
  hand : List EntP
  dirty : List EntP
/-- A pool lies at b, over the device at db; X: the blocks it stands on. -/
structure PoolIs (w : World) (b db : Nat) (l : PL) (ph : Nat) (vh : Value) (pd : Nat) (vd : Value) : Prop where
  blk : Blk w b [.pointer (some ⟨db, 0, none⟩), .int .i64 l.fr, .int .i64 l.n, .pointer (some ⟨ph, 0, none⟩), .pointer (some ⟨pd, 0, none⟩)] 76
  hm : MapP w ph vh l.hand
  dm : MapP w pd vd l.dirty
  ap : ∀ k, footM ph vh k → ¬ footM pd vd k
def footP (b ph : Nat) (vh : Value) (pd : Nat) (vd : Value) (k : Nat) : Prop := k = b ∨ footM ph vh k ∨ footM pd vd k
def PoolAt (w : World) (b db : Nat) (l : PL) (X : NSet) : Prop := ∃ ph vh pd vd, PoolIs w b db l ph vh pd vd ∧ ∀ k, X k ↔ footP b ph vh pd vd k
def PStep (w w' : World) (b db : Nat) (l : PL) (X : NSet) : Prop := Kept X w w' ∧ ∃ X', PoolAt w' b db l X' ∧ ∀ k, X' k → X k ∨ w.heap.size ≤ k
section
variable {w w' : World} {b db : Nat} {l : PL} {ph pd : Nat} {vh vd : Value} {X S : NSet}
theorem MapP.ne_own {v : Value} {p : Nat} {l : List EntP} (h : MapP w p v l) {L : List Value} {t : TypeId} (hb : Blk w b L t) (ht : t ≠ 112) (ht2 : t ≠ 109) : ¬ footM p v b := by
  rintro (e | e)
  · subst e; exact ht (hb.same h.blk).2
  · exact ownsRow_blk_ne h.own hb ht2 e
theorem PoolIs.kept (h : PoolIs w b db l ph vh pd vd) (hk : Kept S w w') (hS : ∀ k, footP b ph vh pd vd k → ¬ S k) : PoolIs w' b db l ph vh pd vd :=
  ⟨hk.blk h.blk (hS _ (.inl rfl)), h.hm.kept hk (hS _ (.inr (.inl (.inl rfl)))) (fun k hk => hS _ (.inr (.inl (.inr hk)))), h.dm.kept hk (hS _ (.inr (.inr (.inl rfl)))) (fun k hk => hS _ (.inr (.inr (.inr hk)))), h.ap⟩
theorem PoolAt.kept (h : PoolAt w b db l X) (hk : Kept S w w') (hS : ∀ k, X k → ¬ S k) : PoolAt w' b db l X := by
  obtain ⟨ph, vh, pd, vd, h, hx⟩ := h
  exact ⟨ph, vh, pd, vd, h.kept hk (fun k hk => hS k ((hx k).2 hk)), hx⟩
theorem MapP.lt {v : Value} {p : Nat} {l : List EntP} (h : MapP w p v l) {k : Nat} (hk : footM p v k) : k < w.heap.size := by
  rcases hk with rfl | hk
  · exact h.blk.lt
  · exact ownsRow_lt h.own k hk
theorem PoolAt.lt (h : PoolAt w b db l X) : ∀ k, X k → k < w.heap.size := by
  obtain ⟨ph, vh, pd, vd, h, hx⟩ := h
  intro k hk
  rcases (hx k).1 hk with rfl | hk | hk
  · exact h.blk.lt
  · exact h.hm.lt hk
  · exact h.dm.lt hk
theorem PoolIs.nb (h : PoolIs w b db l ph vh pd vd) : ¬ footM ph vh b ∧ ¬ footM pd vd b := ⟨h.hm.ne_own h.blk (by decide) (by decide), h.dm.ne_own h.blk (by decide) (by decide)⟩
theorem PStep.refl (h : PoolAt w b db l X) : PStep w w b db l X := ⟨Kept.refl _ _, X, h, fun _ h => .inl h⟩
theorem PStep.pre {w0 : World} (hk : Kept (fun _ => False) w0 w) (h : PStep w w' b db l X) : PStep w0 w' b db l X := by
  obtain ⟨h1, X', h2, h3⟩ := h
  exact ⟨(hk.mono (fun _ _ h => h.elim)).trans h1 (fun _ _ h => h), X', h2, fun k hk' => (h3 k hk').imp id (fun h => Nat.le_trans hk.size h)⟩
theorem PStep.post {w1 : World} (h : PStep w w' b db l X) (hk : Kept (fun _ => False) w' w1) : PStep w w1 b db l X := by
  obtain ⟨h1, X', h2, h3⟩ := h
  exact ⟨h1.trans hk (fun _ _ h => h.elim), X', h2.kept hk (fun _ _ h => h), h3⟩
end
theorem poolhas_at (w : World) (b : Nat) (p0 p1 p3 p4 : Value) (n : Nat) (h : Blk w b [p0, p1, .int .i64 n, p3, p4] 76) (k : Int) (r : Bool) (hr : decide (0 ≤ k ∧ k < n) = r) : Calls Try.prog 28 #[.pointer (some ⟨b, 0, none⟩), .int .i64 k] w fun e w' => e = .returned (.bool r) ∧ w = w' := by
  have c2 : w.cell? ⟨b, 2, none⟩ = some (.int .i64 n) := h.cell 2
  have HR := hide hr
  clear h hr
  by_cases h0 : 0 ≤ k
  · by_cases h1 : k < n
    · go_enter Try.func28, Try.ntmps28
      go_wp2
      go_ret
      exact ⟨by rw [← HR.out]; simp [h0, h1], rfl⟩
    · go_enter Try.func28, Try.ntmps28
      go_wp2
      go_ret
      exact ⟨by rw [← HR.out]; simp; omega, rfl⟩
  · go_enter Try.func28, Try.ntmps28
    go_wp2
    go_ret
    exact ⟨by rw [← HR.out]; simp; omega, rfl⟩
theorem drop_nil (w : World) : Calls Try.prog 13 #[.pointer none] w fun e w' => e = .returned (.tuple #[]) ∧ w = w' := by
  go_enter Try.func13, Try.ntmps13
  go_wp2
  refine bodyPost_ret (results_none rfl _ _ _) rfl ?_
  exact ⟨rfl, rfl⟩
/-- Two fresh orders. -/
theorem drop_core (w : World) (b db fr n : Nat) (p3 p4 : Value) (h : Blk w b [.pointer (some ⟨db, 0, none⟩), .int .i64 fr, .int .i64 n, p3, p4] 76) :
    Calls Try.prog 13 #[.pointer (some ⟨b, 0, none⟩)] w fun e w' => e = .returned (.tuple #[]) ∧ Kept (fun k => k = b) w w' ∧ ∃ X', PoolAt w' b db ⟨fr, n, [], []⟩ X' ∧ ∀ k, X' k → k = b ∨ w.heap.size ≤ k := by
  have HB := hide h
  have hbw := h.lt
  clear h
  go_enter Try.func13, Try.ntmps13
  go_wp2_with fail
  refine (new_atP w).mono ?_
  rintro e w1 ⟨rfl, hm1, hk1⟩
  have hb1 := hk1.blk HB.out (fun h => h)
  have c3 : w1.cell? ⟨b, 3, none⟩ = some p3 := hb1.cell 3
  have f3 : w1.frozen? ⟨b, 3, none⟩ = false := hb1.frozen 3
  have HB1 := hide hb1
  have HM1 := hide hm1
  have HK1 := hide hk1
  clear hb1 hm1 hk1
  go_wp2_with fail
  have hb2 := HB1.out.setCell 3 (.pointer (some ⟨w.heap.size, 0, none⟩))
  have hk2 := Kept.setCell (S := fun k => k = b) w1 ⟨b, 3, none⟩ (.pointer (some ⟨w.heap.size, 0, none⟩)) rfl
  generalize w1.setCell ⟨b, 3, none⟩ (.pointer (some ⟨w.heap.size, 0, none⟩)) = w2 at hb2 hk2 ⊢
  have HB2 := hide hb2
  have HK2 := hide hk2
  clear hb2 hk2 c3 f3
  refine (new_atP w2).mono ?_
  rintro e w3 ⟨rfl, hm3, hk3⟩
  have hb3 := hk3.blk HB2.out (fun h => h)
  have c4 : w3.cell? ⟨b, 4, none⟩ = some p4 := hb3.cell 4
  have f4 : w3.frozen? ⟨b, 4, none⟩ = false := hb3.frozen 4
  have HB3 := hide hb3
  have HM3 := hide hm3
  have HK3 := hide hk3
  clear hb3 hm3 hk3
  go_wp2
  go_end0
  have hb4 := HB3.out.setCell 4 (.pointer (some ⟨w2.heap.size, 0, none⟩))
  have hk4 := Kept.setCell (S := fun k => k = b) w3 ⟨b, 4, none⟩ (.pointer (some ⟨w2.heap.size, 0, none⟩)) rfl
  have s1 := HK1.out.size
  have s2 := HK2.out.size
  have s3 := HK3.out.size
  have l1 := HM1.out.blk.lt
  have hn1 : (Value.slice none 0 0).ownBlock = none := rfl
  have hm2 : MapP w2 w.heap.size (.slice none 0 0) [] := HM1.out.kept HK2.out (fun e => by omega) (fun k hk => by rw [hn1] at hk; cases hk)
  have hm4 : MapP _ w.heap.size (.slice none 0 0) [] := (hm2.kept HK3.out (fun h => h) (fun _ _ h => h)).kept hk4 (fun e => by omega) (fun k hk => by rw [hn1] at hk; cases hk)
  have hd4 : MapP _ w2.heap.size (.slice none 0 0) [] := HM3.out.kept hk4 (fun e => by omega) (fun k hk => by rw [hn1] at hk; cases hk)
  refine ⟨rfl, ?_, _, ⟨_, _, _, _, ⟨hb4, hm4, hd4, ?_⟩, fun _ => Iff.rfl⟩, ?_⟩
  · exact (((HK1.out.mono (T := fun k => k = b) (fun _ _ h => h.elim)).trans HK2.out (fun _ _ h => h)).trans HK3.out (fun _ _ h => h.elim)).trans hk4 (fun _ _ h => h)
  · rintro k (rfl | h) (h2 | h2)
    · omega
    · rw [hn1] at h2; cases h2
    · rw [hn1] at h; cases h
    · rw [hn1] at h; cases h
  · rintro k (rfl | (rfl | h) | (rfl | h))
    · exact .inl rfl
    · exact .inr (Nat.le_refl _)
    · rw [hn1] at h; cases h
    · exact .inr (by omega)
    · rw [hn1] at h; cases h
theorem drop_at (w : World) (b db : Nat) (l : PL) (X : NSet) (h : PoolAt w b db l X) :
    Calls Try.prog 13 #[.pointer (some ⟨b, 0, none⟩)] w fun e w' => e = .returned (.tuple #[]) ∧ PStep w w' b db ⟨l.fr, l.n, [], []⟩ X := by
  obtain ⟨ph, vh, pd, vd, h, hx⟩ := h
  refine (drop_core w b db l.fr l.n _ _ h.blk).mono ?_
  rintro e w' ⟨rfl, hk, X', hp, hX⟩
  exact ⟨rfl, hk.mono (fun k _ e => (hx k).2 (.inl e)), X', hp, fun k hk => (hX k hk).imp (fun e => (hx k).2 (.inl e)) id⟩
theorem dirty_nil (w : World) : Calls Try.prog 16 #[.pointer none] w fun e w' => e = .returned (.slice none 0 0) ∧ w = w' := by
  go_enter Try.func16, Try.ntmps16
  go_wp2
  go_ret
  exact ⟨rfl, rfl⟩
theorem dirty_at (w : World) (b db : Nat) (l : PL) (X : NSet) (h : PoolAt w b db l X) (hl : l.dirty.length ≤ 1000000) :
    Calls Try.prog 16 #[.pointer (some ⟨b, 0, none⟩)] w fun e w' => ∃ kv, e = .returned kv ∧ w'.ownsRow 0 3 1 kv l.dirty.length (l.dirty.map fun x => (Value.int .i64 (x.1))) ∧ Kept (fun _ => False) w w' := by
  obtain ⟨ph, vh, pd, vd, h, hx⟩ := h
  have c4 : w.cell? ⟨b, 4, none⟩ = some (.pointer (some ⟨pd, 0, none⟩)) := h.blk.cell 4
  have HK := hide (keys_atP w pd vd l.dirty h.dm hl)
  clear h hx hl
  go_enter Try.func16, Try.ntmps16
  go_wp2_with fail
  refine HK.out.mono ?_
  rintro e w1 ⟨kv, rfl, ho, hk⟩
  have HO := hide ho
  have HK1 := hide hk
  clear ho hk
  go_wp2
  go_ret
  exact ⟨_, rfl, HO.out, HK1.out⟩
end Go.Proofs.Ytakpkibjpjcgbaa
