/-
  Disks in memory; Blocks, has, New.
-/
import Derived.Test.YtlpjhgcafkdhdaaIT
import Derived.Test.YtlpjhgcafkdhdaaIMath
namespace Go.Proofs.Ytlpjhgcafkdhdaa
open Go.RowKit Go.Shelf
set_option linter.unusedSimpArgs false
set_option linter.unusedVariables false
set_option maxRecDepth 100000

/-- d is a disk of n blocks that holds the bytes B; a nil one has none. -/
def DkAt (w : World) (d : Value) (n : Nat) (B : List Nat) : Prop :=
  (n = 0 ∧ B = [] ∧ d = .pointer none) ∨
  (1 ≤ n ∧ n ≤ 64 ∧ B.length = 64 * n ∧ (∀ x ∈ B, x < 256) ∧ ∃ b g cap C, d = .pointer (some ⟨b, 0, none⟩) ∧ Blk w b [.slice (some ⟨g, 0, none⟩) n cap] 58 ∧ Blk w g (BV B ++ C) 62 ∧ n ≤ cap ∧ cap ≤ maxLen ∧ C.length = (cap - n) * 64)
theorem DkAt.keptX {w w' : World} {d : Value} {n : Nat} {B : List Nat} {S : Nat → Prop} (h : DkAt w d n B) (hk : Kept S w w') (hS : ∀ k L t, S k → Blk w k L t → t ≠ 58 ∧ t ≠ 62) : DkAt w' d n B := by
  rcases h with h | ⟨h1, h2, h3, h4, b, g, cap, C, h5, h6, h7, h8⟩
  · exact .inl h
  · exact .inr ⟨h1, h2, h3, h4, b, g, cap, C, h5, hk.blk h6 (fun h => (hS _ _ _ h h6).1 rfl), hk.blk h7 (fun h => (hS _ _ _ h h7).2 rfl), h8⟩
theorem DkAt.kept {w w' : World} {d : Value} {n : Nat} {B : List Nat} (h : DkAt w d n B) (hk : Kept (fun _ => False) w w') : DkAt w' d n B := h.keptX hk (fun _ _ _ h => h.elim)
theorem DkAt.keptB {w w' : World} {d : Value} {n g : Nat} {B : List Nat} {L : List Value} {t : TypeId} (h : DkAt w d n B) (hb : Blk w g L t) (h1 : t ≠ 58) (h2 : t ≠ 62) (hk : Kept (fun k => k = g) w w') : DkAt w' d n B :=
  h.keptX hk (fun k M u e hM => by subst e; obtain ⟨_, rfl⟩ := hb.same hM; exact ⟨h1, h2⟩)
theorem DkAt.len {w : World} {d : Value} {n : Nat} {B : List Nat} (h : DkAt w d n B) : B.length = 64 * n := by
  rcases h with ⟨rfl, rfl, _⟩ | ⟨_, _, h, _⟩
  · rfl
  · exact h
theorem DkAt.lt {w : World} {d : Value} {n : Nat} {B : List Nat} (h : DkAt w d n B) : ∀ x ∈ B, x < 256 := by
  rcases h with ⟨rfl, rfl, _⟩ | ⟨_, _, _, h, _⟩
  · simp
  · exact h
theorem DkAt.le {w : World} {d : Value} {n : Nat} {B : List Nat} (h : DkAt w d n B) : n ≤ 64 := by
  rcases h with ⟨rfl, _⟩ | ⟨_, h, _⟩
  · simp
  · exact h
theorem DkAt.ptr {w : World} {d : Value} {n : Nat} {B : List Nat} (h : DkAt w d n B) : ∃ a, d = .pointer a ∧ (a = none ↔ n = 0) := by
  rcases h with ⟨rfl, rfl, rfl⟩ | ⟨h0, _, _, _, b, g, cap, C, rfl, _⟩
  · exact ⟨_, rfl, by simp⟩
  · exact ⟨_, rfl, by simp; omega⟩
theorem DkAt.nil (w : World) : DkAt w (.pointer none) 0 [] := .inl ⟨rfl, rfl, rfl⟩
/-- A block's bytes, where they lie. -/
theorem BV_block {B : List Nat} {C : List Value} {n k : Nat} (h : B.length = 64 * n) (hk : k < n) : ((BV B ++ C).drop (64 * k)).take 64 = BV (getB B k) := by
  have : (BV B).length = 64 * n := by rw [BV_length, h]
  rw [List.drop_append_of_le_length (by omega), List.take_append_of_le_length (by rw [List.length_drop]; omega), ← BV_drop, ← BV_take]
  rfl

theorem blocks_at (w : World) (d : Value) (n : Nat) (B : List Nat) (h : DkAt w d n B) : Calls Try.prog 11 #[d] w fun e w' => e = .returned (.int .i64 n) ∧ w = w' := by
  rcases h with ⟨rfl, rfl, rfl⟩ | ⟨h1, h2, h3, h4, b, g, cap, C, rfl, h6, h7, h8⟩
  · go_enter Try.func11, Try.ntmps11
    go_wp2
    go_ret
    exact ⟨rfl, rfl⟩
  · have c0 : w.cell? ⟨b, 0, none⟩ = some (.slice (some ⟨g, 0, none⟩) n cap) := h6.cell 0
    clear h3 h4 h6 h7 h8
    go_enter Try.func11, Try.ntmps11
    go_wp2
    go_ret
    exact ⟨rfl, rfl⟩
theorem has_at (w : World) (d : Value) (n : Nat) (B : List Nat) (h : DkAt w d n B) (k : Int) (r : Bool) (hr : decide (0 ≤ k ∧ k < n) = r) : Calls Try.prog 23 #[d, .int .i64 k] w fun e w' => e = .returned (.bool r) ∧ w = w' := by
  have HB := hide (blocks_at w d n B h)
  have HR := hide hr
  clear h hr
  by_cases h0 : 0 ≤ k
  · by_cases h1 : k < n
    · go_enter Try.func23, Try.ntmps23
      go_wp2_with (go_at_call 11; refine HB.out.mono ?_; rintro e w1 ⟨rfl, rfl⟩)
      go_ret
      exact ⟨by rw [← HR.out]; simp [h0, h1], rfl⟩
    · go_enter Try.func23, Try.ntmps23
      go_wp2_with (go_at_call 11; refine HB.out.mono ?_; rintro e w1 ⟨rfl, rfl⟩)
      go_ret
      exact ⟨by rw [← HR.out]; simp; omega, rfl⟩
  · go_enter Try.func23, Try.ntmps23
    go_wp2
    go_ret
    exact ⟨by rw [← HR.out]; simp; omega, rfl⟩
/-- A struct of one field of one cell is built. -/
theorem run_build_one {P : Program} {ρ : Operand → Value} {w : World} {dst : Option Tmp} {t ty : TypeId} {x : Operand} {pos : String} {aft : Array Edge} {gd : Option (Nat × Bool)} {i : TypeInfo} {z z1 : Value} {fields : Array Field} {v : Value}
    (hi : P.info? t = some i) (hz : i.zero = some z) (hu : P.underlying t = some (.struct fields)) (hp : fields.toList.mapM (fun f => (P.info? f.type).map fun i => (f.offset, i.size)) = some [(0, 1)])
    (hx : ρ x = v) (h1 : v.cells = #[v]) (hzc : z.cells = #[z1]) :
    (execOp ρ ⟨dst, .build t #[(0, x)], ty, pos, aft, gd⟩).run P w = .ok (.value (.agg #[v])) w := by
  have hb : P.built t [(0, v)] = some #[v] := by
    simp only [Program.built, hi, hu, hz, hp]
    rw [fill_one _ _ 0 v _ 0 [v] h1 (by simp) (by simp [hzc]), fill_nil, put_whole _ _ (by simp [hzc])]
  have hr := run_build (P := P) w t #[(0, v)] _ (by simpa using hb)
  simp [execOp, hx, hr]
theorem Try.build58 {ρ : Operand → Value} {w : World} {dst : Option Tmp} {ty : TypeId} {x : Operand} {pos : String} {aft : Array Edge} {gd : Option (Nat × Bool)} {v : Value} (hx : ρ x = v) (h1 : v.cells = #[v]) :
    (execOp ρ ⟨dst, .build 58 #[(0, x)], ty, pos, aft, gd⟩).run Try.prog w = .ok (.value (.agg #[v])) w := by
  obtain ⟨i0, hi0, hz0, hs0, hb0⟩ := info_parts Try.info58
  exact run_build_one (z1 := .slice none 0 0) hi0 hz0 Try.underlying58 (by kernel_rfl) hx h1 rfl
theorem BV_rep (n : Nat) : BV (List.replicate n 0) = List.replicate n (.int .u8 0) := by simp [BV]
/-- No disk. -/
theorem new_no (w : World) (n : Int) (h : ¬ (1 ≤ n ∧ n ≤ 64)) : Calls Try.prog 8 #[.int .i64 n] w fun e w' => e = .returned (.tuple #[.pointer none, .int .i64 2]) ∧ w = w' := by
  by_cases h1 : n < 1
  · clear h
    go_enter Try.func8, Try.ntmps8
    go_wp2
    go_ret2
    exact ⟨rfl, rfl⟩
  · have h2 : 64 < n := by omega
    clear h
    go_enter Try.func8, Try.ntmps8
    go_wp2
    go_ret2
    exact ⟨rfl, rfl⟩
/-- A fresh disk. -/
theorem new_in (w : World) (m : Nat) (hm : 1 ≤ m ∧ m ≤ 64) : Calls Try.prog 8 #[.int .i64 m] w fun e w' => ∃ b g, e = .returned (.tuple #[.pointer (some ⟨b, 0, none⟩), .int .i64 0]) ∧ Kept (fun _ => False) w w' ∧ w.heap.size ≤ b ∧ w.heap.size ≤ g ∧ Blk w' b [.slice (some ⟨g, 0, none⟩) m m] 58 ∧ Blk w' g (BV (List.replicate (64 * m) 0)) 62 := by
  obtain ⟨i0, hi0, hz0, hs0, hb0⟩ := info_parts Try.info62
  have Hi0 := hide hi0
  have Hz0 := hide hz0
  have Hs0 := hide hs0
  have Hb0 := hide hb0
  have Hm := hide hm
  have h1 : ¬ ((m : Int) < 1) := by omega
  have h2 : ¬ (64 < (m : Int)) := by omega
  clear hi0 hz0 hs0 hb0 hm
  go_enter Try.func8, Try.ntmps8
  go_wp2_with (first
    | ((with_reducible refine aw_make (n := m) 64 (by decide) Try.underlying56 Hi0.out Hz0.out rfl Hs0.out rfl rfl (by rw [Hb0.out]; have := Hm.out; omega) (by have := Hm.out; unfold maxLen; omega) ?_); intro w1 hw1 hk1 hz1; have HW := hide hw1; have HK := hide hk1; clear hw1 hk1 hz1)
    | (with_reducible refine wpList_run rfl (Try.build58 rfl rfl) ?_)
    | ((with_reducible refine aw_box (v := .agg #[.slice (some ⟨w.heap.size, 0, none⟩) m m]) rfl ?_); intro w2 hw2 hk2 hz2; have HW2 := hide hw2; have HK2 := hide hk2; clear hw2 hk2 hz2))
  go_ret2
  refine ⟨_, rfl, HK.out.trans HK2.out (fun _ _ h => h), HK.out.size, _, Nat.le_refl _, HW2.out, ?_⟩
  have := HK2.out.blk HW.out (fun h => h)
  rw [BV_rep, Nat.mul_comm]
  exact this
theorem new_ok (w : World) (m : Nat) (hm : 1 ≤ m ∧ m ≤ 64) : Calls Try.prog 8 #[.int .i64 m] w fun e w' => ∃ d, e = .returned (.tuple #[d, .int .i64 0]) ∧ Kept (fun _ => False) w w' ∧ DkAt w' d m (List.replicate (64 * m) 0) := by
  refine (new_in w m hm).mono ?_
  rintro e w' ⟨b, g, rfl, hk, _, _, h1, h2⟩
  exact ⟨_, rfl, hk, .inr ⟨hm.1, hm.2, by simp, by simp, b, g, m, [], rfl, h1, by rw [List.append_nil]; exact h2, Nat.le_refl _, by unfold maxLen; omega, by simp⟩⟩
end Go.Proofs.Ytlpjhgcafkdhdaa
