/-
  Disks as lists of bytes, 64 a block: blocks got and put, writes, what differs. Plain functions over lists; no condition beyond each law's own premises.
-/
import Derived.Test.YtnlcmgdeohbmoaaJ05
import Derived.Test.YtnlcmgdeohbmoaaJ09
namespace Go.Proofs.Ytnlcmgdeohbmoaa
set_option linter.unusedSimpArgs false
set_option linter.unusedVariables false
set_option maxRecDepth 100000

def getB (B : List Nat) (k : Nat) : List Nat := (B.drop (64 * k)).take 64
def putB (B : List Nat) (k : Nat) (b : List Nat) : List Nat := B.take (64 * k) ++ b ++ B.drop (64 * k + 64)
theorem getB_len {B : List Nat} {n k : Nat} (h : B.length = 64 * n) (hk : k < n) : (getB B k).length = 64 := by simp [getB]; omega
theorem getB_lt {B : List Nat} (h : ∀ x ∈ B, x < 256) (k : Nat) : ∀ x ∈ getB B k, x < 256 := fun x hx => h x (List.mem_of_mem_drop (List.mem_of_mem_take hx))
theorem putB_len {B b : List Nat} {n k : Nat} (h : B.length = 64 * n) (hk : k < n) (hb : b.length = 64) : (putB B k b).length = 64 * n := by simp [putB]; omega
theorem putB_lt {B b : List Nat} {k : Nat} (h : ∀ x ∈ B, x < 256) (hb : ∀ x ∈ b, x < 256) : ∀ x ∈ putB B k b, x < 256 := by
  intro x hx
  simp only [putB, List.mem_append] at hx
  rcases hx with (hx | hx) | hx
  · exact h x (List.mem_of_mem_take hx)
  · exact hb x hx
  · exact h x (List.mem_of_mem_drop hx)
theorem getB_put {B b : List Nat} {n k : Nat} (h : B.length = 64 * n) (hk : k < n) (hb : b.length = 64) (j : Nat) (hj : j < n) : getB (putB B k b) j = if j = k then b else getB B j := by
  have h1 : (B.take (64 * k)).length = 64 * k := by rw [List.length_take]; omega
  unfold getB putB
  split
  · rename_i e
    subst e
    rw [List.append_assoc, List.drop_left' h1, List.take_left' hb]
  · rename_i e
    apply List.ext_getElem?
    intro i
    simp only [List.getElem?_take, List.getElem?_drop, List.append_assoc, List.getElem?_append, h1, hb]
    split
    · split
      · rfl
      · split
        · omega
        · congr 1; omega
    · rfl
theorem dk_ext {A B : List Nat} {n : Nat} (hA : A.length = 64 * n) (hB : B.length = 64 * n) (h : ∀ k, k < n → getB A k = getB B k) : A = B := by
  apply List.ext_getElem?
  intro i
  by_cases hi : i < 64 * n
  · have := h (i / 64) (by omega)
    have := congrArg (fun l => l[i % 64]?) this
    have hm := Nat.mod_lt i (show 64 > 0 by decide)
    simp only [getB, List.getElem?_take, List.getElem?_drop, hm, if_true] at this
    rw [show 64 * (i / 64) + i % 64 = i by omega] at this
    exact this
  · rw [List.getElem?_eq_none (by omega), List.getElem?_eq_none (by omega)]

/-- The error of writes on a disk of n blocks. -/
def withE (n : Nat) : List Wr → Int
  | [] => 0
  | w :: l => if ¬ (0 ≤ w.blk ∧ w.blk < n) then 41 else if w.B.length ≠ 64 then 42 else withE n l
def withB (B : List Nat) : List Wr → List Nat
  | [] => B
  | w :: l => withB (putB B w.blk.toNat w.B) l
theorem withE_append (n : Nat) : ∀ (a b : List Wr), withE n (a ++ b) = if withE n a = 0 then withE n b else withE n a
  | [], b => by simp [withE]
  | w :: a, b => by
    simp only [List.cons_append, withE]
    split
    · simp
    · split
      · simp
      · exact withE_append n a b
theorem withB_append : ∀ (B : List Nat) (a b : List Wr), withB B (a ++ b) = withB (withB B a) b
  | B, [], b => rfl
  | B, w :: a, b => by simp only [List.cons_append, withB]; exact withB_append _ a b
theorem withE_cons {n : Nat} {w : Wr} {l : List Wr} (h : withE n (w :: l) = 0) : ∃ k : Nat, w.blk = k ∧ k < n ∧ w.B.length = 64 ∧ withE n l = 0 := by
  simp only [withE] at h
  split at h
  · cases h
  · split at h
    · cases h
    · rename_i h1 h2
      have h1 := Decidable.not_not.1 h1
      exact ⟨w.blk.toNat, by omega, by omega, Decidable.not_not.1 h2, h⟩
theorem withE_cases (n : Nat) : ∀ l : List Wr, withE n l = 0 ∨ withE n l = 41 ∨ withE n l = 42
  | [] => .inl rfl
  | w :: l => by
    simp only [withE]
    split
    · exact .inr (.inl rfl)
    · split
      · exact .inr (.inr rfl)
      · exact withE_cases n l
theorem withB_len {n : Nat} : ∀ {l : List Wr} {B : List Nat}, B.length = 64 * n → withE n l = 0 → (withB B l).length = 64 * n
  | [], _, h, _ => h
  | w :: l, B, h, he => by
    obtain ⟨k, h1, h2, h3, h4⟩ := withE_cons he
    simp only [withB, h1, Int.toNat_natCast]
    exact withB_len (putB_len h h2 h3) h4
theorem withB_lt : ∀ {l : List Wr} {B : List Nat}, (∀ x ∈ B, x < 256) → (∀ w ∈ l, ∀ x ∈ w.B, x < 256) → ∀ x ∈ withB B l, x < 256
  | [], _, h, _ => h
  | w :: l, B, h, hl => by
    simp only [withB]
    exact withB_lt (putB_lt h (hl w (by simp))) (fun w' hw => hl w' (by simp [hw]))

def unlikeB (n : Nat) (A : List Nat) (m : Nat) (B : List Nat) (k : Nat) : Bool := !(decide (k < n) && decide (k < m) && decide (getB A k = getB B k))
/-- The first places of the first j at which the two disks are unlike. -/
def diffTo (n : Nat) (A : List Nat) (m : Nat) (B : List Nat) (j : Nat) : List Nat := (List.range j).filter (unlikeB n A m B)
def diffB (n : Nat) (A : List Nat) (m : Nat) (B : List Nat) : List Nat := diffTo n A m B (max n m)
theorem diffTo_succ (n : Nat) (A : List Nat) (m : Nat) (B : List Nat) (j : Nat) : diffTo n A m B (j + 1) = if unlikeB n A m B j then diffTo n A m B j ++ [j] else diffTo n A m B j := by
  simp only [diffTo, List.range_succ, List.filter_append]
  split <;> simp_all
theorem diffTo_len (n : Nat) (A : List Nat) (m : Nat) (B : List Nat) (j : Nat) : (diffTo n A m B j).length ≤ j := by
  have := List.length_filter_le (unlikeB n A m B) (List.range j)
  simpa [diffTo] using this
theorem diff_nil {n : Nat} {A B : List Nat} (hA : A.length = 64 * n) (hB : B.length = 64 * n) : diffB n A n B = [] ↔ A = B := by
  constructor
  · intro h
    refine dk_ext hA hB fun k hk => ?_
    have : ¬ (k ∈ diffB n A n B) := by rw [h]; simp
    simp only [diffB, diffTo, List.mem_filter, List.mem_range, unlikeB, hk, decide_true, Bool.true_and, Bool.not_eq_true', decide_eq_false_iff_not, not_and, Decidable.not_not] at this
    exact this (by omega)
  · rintro rfl
    simp [diffB, diffTo, unlikeB, List.filter_eq_nil_iff]
theorem diff_of_ne {n m : Nat} (A B : List Nat) (h : n ≠ m) : diffB n A m B ≠ [] := by
  intro h2
  have : ¬ (min n m ∈ diffB n A m B) := by rw [h2]; simp
  simp only [diffB, diffTo, List.mem_filter, List.mem_range, unlikeB] at this
  apply this
  refine ⟨by omega, ?_⟩
  have : decide (min n m < n) = false ∨ decide (min n m < m) = false := by
    simp only [decide_eq_false_iff_not]; omega
  rcases this with h | h <;> simp [h]

/-- Blocks of D written over A. -/
def backL (D : List Nat) (ks : List Nat) : List Wr := ks.map fun (k : Nat) => ⟨(k : Int), getB D k⟩
theorem back_ok {n : Nat} {D : List Nat} (hD : D.length = 64 * n) : ∀ {ks : List Nat}, (∀ k ∈ ks, k < n) → withE n (backL D ks) = 0
  | [], _ => rfl
  | k :: ks, h => by
    have hk := h k (by simp)
    have ih := back_ok hD (ks := ks) (fun j hj => h j (by simp [hj]))
    simp only [backL, List.map_cons, withE]
    rw [if_neg (by simp; omega), if_neg (by simp [getB_len hD hk])]
    exact ih
theorem back_get {n : Nat} {D : List Nat} (hD : D.length = 64 * n) : ∀ {ks : List Nat} {A : List Nat}, A.length = 64 * n → (∀ k ∈ ks, k < n) → ∀ j, j < n → getB (withB A (backL D ks)) j = if j ∈ ks then getB D j else getB A j
  | [], A, _, _, j, _ => by simp [backL, withB]
  | k :: ks, A, hA, h, j, hj => by
    have hk := h k (by simp)
    have ih := back_get hD (ks := ks) (A := putB A k (getB D k)) (putB_len hA hk (getB_len hD hk)) (fun j hj => h j (by simp [hj])) j hj
    simp only [backL, List.map_cons, withB, Int.toNat_natCast] at ih ⊢
    rw [ih, getB_put hA hk (getB_len hD hk) j hj]
    by_cases h1 : j ∈ ks
    · simp [h1]
    · by_cases h2 : j = k
      · subst h2; simp [h1]
      · simp [h1, h2]
theorem diff_mem {n : Nat} {A B : List Nat} {k : Nat} : k ∈ diffB n A n B ↔ k < n ∧ getB A k ≠ getB B k := by
  simp only [diffB, diffTo, List.mem_filter, List.mem_range, unlikeB]
  constructor
  · rintro ⟨h1, h2⟩
    have hk : k < n := by omega
    refine ⟨hk, fun e => ?_⟩
    simp [hk, e] at h2
  · rintro ⟨h1, h2⟩
    exact ⟨by omega, by simp [h1, h2]⟩
/-- What is written back makes the disk that was. -/
theorem back_all {n : Nat} {D A : List Nat} (hD : D.length = 64 * n) (hA : A.length = 64 * n) : withE n (backL D (diffB n D n A)) = 0 ∧ withB A (backL D (diffB n D n A)) = D := by
  have hl : ∀ k ∈ diffB n D n A, k < n := fun k hk => (diff_mem.1 hk).1
  have he := back_ok hD hl
  refine ⟨he, dk_ext (withB_len hA he) hD fun k hk => ?_⟩
  rw [back_get hD hA hl k hk]
  split
  · rfl
  · rename_i h
    rw [diff_mem] at h
    exact (Decidable.not_not.1 (fun h2 => h ⟨hk, fun e => h2 e.symm⟩))
end Go.Proofs.Ytnlcmgdeohbmoaa

/-
  Disks in memory; Blocks, has, New.
-/
namespace Go.Proofs.Ytnlcmgdeohbmoaa
open Go.RowKit Go.Shelf
set_option linter.unusedSimpArgs false
set_option linter.unusedVariables false
set_option maxRecDepth 100000

/-- d is a disk of n blocks that holds the bytes B; a nil one has none. -/
def DkAt (w : World) (d : Value) (n : Nat) (B : List Nat) : Prop :=
  (n = 0 ∧ B = [] ∧ d = .pointer none) ∨
  (1 ≤ n ∧ n ≤ 64 ∧ B.length = 64 * n ∧ (∀ x ∈ B, x < 256) ∧ ∃ b g cap C, d = .pointer (some ⟨b, 0, none⟩) ∧ Blk w b [.slice (some ⟨g, 0, none⟩) n cap] 118 ∧ Blk w g (BV B ++ C) 119 ∧ n ≤ cap ∧ cap ≤ maxLen ∧ C.length = (cap - n) * 64)
theorem DkAt.keptX {w w' : World} {d : Value} {n : Nat} {B : List Nat} {S : Nat → Prop} (h : DkAt w d n B) (hk : Kept S w w') (hS : ∀ k L t, S k → Blk w k L t → t ≠ 118 ∧ t ≠ 119) : DkAt w' d n B := by
  rcases h with h | ⟨h1, h2, h3, h4, b, g, cap, C, h5, h6, h7, h8⟩
  · exact .inl h
  · exact .inr ⟨h1, h2, h3, h4, b, g, cap, C, h5, hk.blk h6 (fun h => (hS _ _ _ h h6).1 rfl), hk.blk h7 (fun h => (hS _ _ _ h h7).2 rfl), h8⟩
theorem DkAt.kept {w w' : World} {d : Value} {n : Nat} {B : List Nat} (h : DkAt w d n B) (hk : Kept (fun _ => False) w w') : DkAt w' d n B := h.keptX hk (fun _ _ _ h => h.elim)
theorem DkAt.keptB {w w' : World} {d : Value} {n g : Nat} {B : List Nat} {L : List Value} {t : TypeId} (h : DkAt w d n B) (hb : Blk w g L t) (h1 : t ≠ 118) (h2 : t ≠ 119) (hk : Kept (fun k => k = g) w w') : DkAt w' d n B :=
  h.keptX hk (fun k M u e hM => by subst e; obtain ⟨_, rfl⟩ := hb.same hM; exact ⟨h1, h2⟩)
theorem DkAt.len {w : World} {d : Value} {n : Nat} {B : List Nat} (h : DkAt w d n B) : B.length = 64 * n := by
  rcases h with ⟨rfl, rfl, _⟩ | ⟨_, _, h, _⟩
  · rfl
  · exact h
theorem DkAt.lt {w : World} {d : Value} {n : Nat} {B : List Nat} (h : DkAt w d n B) : ∀ x ∈ B, x < 256 := by
  rcases h with ⟨rfl, rfl, _⟩ | ⟨_, _, _, h, _⟩
  · simp
  · exact h
theorem DkAt.le {w : World} {d : Value} {n : Nat} {B : List Nat} (h : DkAt w d n B) : n ≤ 64 := by
  rcases h with ⟨rfl, _⟩ | ⟨_, h, _⟩
  · simp
  · exact h
theorem DkAt.ptr {w : World} {d : Value} {n : Nat} {B : List Nat} (h : DkAt w d n B) : ∃ a, d = .pointer a ∧ (a = none ↔ n = 0) := by
  rcases h with ⟨rfl, rfl, rfl⟩ | ⟨h0, _, _, _, b, g, cap, C, rfl, _⟩
  · exact ⟨_, rfl, by simp⟩
  · exact ⟨_, rfl, by simp; omega⟩
theorem DkAt.nil (w : World) : DkAt w (.pointer none) 0 [] := .inl ⟨rfl, rfl, rfl⟩
/-- A block's bytes, where they lie. -/
theorem BV_block {B : List Nat} {C : List Value} {n k : Nat} (h : B.length = 64 * n) (hk : k < n) : ((BV B ++ C).drop (64 * k)).take 64 = BV (getB B k) := by
  have : (BV B).length = 64 * n := by rw [BV_length, h]
  rw [List.drop_append_of_le_length (by omega), List.take_append_of_le_length (by rw [List.length_drop]; omega), ← BV_drop, ← BV_take]
  rfl

theorem blocks_at (w : World) (d : Value) (n : Nat) (B : List Nat) (h : DkAt w d n B) : Calls Try.prog 66 #[d] w fun e w' => e = .returned (.int .i64 n) ∧ w = w' := by
  rcases h with ⟨rfl, rfl, rfl⟩ | ⟨h1, h2, h3, h4, b, g, cap, C, rfl, h6, h7, h8⟩
  · go_enter Try.func66, Try.ntmps66
    go_wp2
    go_ret
    exact ⟨rfl, rfl⟩
  · have c0 : w.cell? ⟨b, 0, none⟩ = some (.slice (some ⟨g, 0, none⟩) n cap) := h6.cell 0
    clear h3 h4 h6 h7 h8
    go_enter Try.func66, Try.ntmps66
    go_wp2
    go_ret
    exact ⟨rfl, rfl⟩
/-- A struct of one field of one cell is built. -/
theorem run_build_one {P : Program} {ρ : Operand → Value} {w : World} {dst : Option Tmp} {t ty : TypeId} {x : Operand} {pos : String} {aft : Array Edge} {gd : Option (Nat × Bool)} {i : TypeInfo} {z z1 : Value} {fields : Array Field} {v : Value}
    (hi : P.info? t = some i) (hz : i.zero = some z) (hu : P.underlying t = some (.struct fields)) (hp : fields.toList.mapM (fun f => (P.info? f.type).map fun i => (f.offset, i.size)) = some [(0, 1)])
    (hx : ρ x = v) (h1 : v.cells = #[v]) (hzc : z.cells = #[z1]) :
    (execOp ρ ⟨dst, .build t #[(0, x)], ty, pos, aft, gd⟩).run P w = .ok (.value (.agg #[v])) w := by
  have hb : P.built t [(0, v)] = some #[v] := by
    simp only [Program.built, hi, hu, hz, hp]
    rw [fill_one _ _ 0 v _ 0 [v] h1 (by simp) (by simp [hzc]), fill_nil, put_whole _ _ (by simp [hzc])]
  have hr := run_build (P := P) w t #[(0, v)] _ (by simpa using hb)
  simp [execOp, hx, hr]
theorem Try.build58 {ρ : Operand → Value} {w : World} {dst : Option Tmp} {ty : TypeId} {x : Operand} {pos : String} {aft : Array Edge} {gd : Option (Nat × Bool)} {v : Value} (hx : ρ x = v) (h1 : v.cells = #[v]) :
    (execOp ρ ⟨dst, .build 118 #[(0, x)], ty, pos, aft, gd⟩).run Try.prog w = .ok (.value (.agg #[v])) w := by
  obtain ⟨i0, hi0, hz0, hs0, hb0⟩ := info_parts Try.info118
  exact run_build_one (z1 := .slice none 0 0) hi0 hz0 Try.underlying118 (by kernel_rfl) hx h1 rfl
theorem BV_rep (n : Nat) : BV (List.replicate n 0) = List.replicate n (.int .u8 0) := by simp [BV]
/-- No disk. -/
theorem new_no (w : World) (n : Int) (h : ¬ (1 ≤ n ∧ n ≤ 64)) : Calls Try.prog 53 #[.int .i64 n] w fun e w' => e = .returned (.tuple #[.pointer none, .int .i64 2]) ∧ w = w' := by
  by_cases h1 : n < 1
  · clear h
    go_enter Try.func53, Try.ntmps53
    go_wp2
    go_ret2
    exact ⟨rfl, rfl⟩
  · have h2 : 64 < n := by omega
    clear h
    go_enter Try.func53, Try.ntmps53
    go_wp2
    go_ret2
    exact ⟨rfl, rfl⟩
/-- A fresh disk. -/
theorem new_in (w : World) (m : Nat) (hm : 1 ≤ m ∧ m ≤ 64) : Calls Try.prog 53 #[.int .i64 m] w fun e w' => ∃ b g, e = .returned (.tuple #[.pointer (some ⟨b, 0, none⟩), .int .i64 0]) ∧ Kept (fun _ => False) w w' ∧ w.heap.size ≤ b ∧ w.heap.size ≤ g ∧ Blk w' b [.slice (some ⟨g, 0, none⟩) m m] 118 ∧ Blk w' g (BV (List.replicate (64 * m) 0)) 119 := by
  obtain ⟨i0, hi0, hz0, hs0, hb0⟩ := info_parts Try.info119
  have Hi0 := hide hi0
  have Hz0 := hide hz0
  have Hs0 := hide hs0
  have Hb0 := hide hb0
  have Hm := hide hm
  have h1 : ¬ ((m : Int) < 1) := by omega
  have h2 : ¬ (64 < (m : Int)) := by omega
  clear hi0 hz0 hs0 hb0 hm
  go_enter Try.func53, Try.ntmps53
  go_wp2_with (first
    | ((with_reducible refine aw_make (n := m) 64 (by decide) Try.underlying116 Hi0.out Hz0.out rfl Hs0.out rfl rfl (by rw [Hb0.out]; have := Hm.out; omega) (by have := Hm.out; unfold maxLen; omega) ?_); intro w1 hw1 hk1 hz1; have HW := hide hw1; have HK := hide hk1; clear hw1 hk1 hz1)
    | (with_reducible refine wpList_run rfl (Try.build58 rfl rfl) ?_)
    | ((with_reducible refine aw_box (v := .agg #[.slice (some ⟨w.heap.size, 0, none⟩) m m]) rfl ?_); intro w2 hw2 hk2 hz2; have HW2 := hide hw2; have HK2 := hide hk2; clear hw2 hk2 hz2))
  go_ret2
  refine ⟨_, rfl, HK.out.trans HK2.out (fun _ _ h => h), HK.out.size, _, Nat.le_refl _, HW2.out, ?_⟩
  have := HK2.out.blk HW.out (fun h => h)
  rw [BV_rep, Nat.mul_comm]
  exact this
theorem new_ok (w : World) (m : Nat) (hm : 1 ≤ m ∧ m ≤ 64) : Calls Try.prog 53 #[.int .i64 m] w fun e w' => ∃ d, e = .returned (.tuple #[d, .int .i64 0]) ∧ Kept (fun _ => False) w w' ∧ DkAt w' d m (List.replicate (64 * m) 0) := by
  refine (new_in w m hm).mono ?_
  rintro e w' ⟨b, g, rfl, hk, _, _, h1, h2⟩
  exact ⟨_, rfl, hk, .inr ⟨hm.1, hm.2, by simp, by simp, b, g, m, [], rfl, h1, by rw [List.append_nil]; exact h2, Nat.le_refl _, by unfold maxLen; omega, by simp⟩⟩
end Go.Proofs.Ytnlcmgdeohbmoaa
