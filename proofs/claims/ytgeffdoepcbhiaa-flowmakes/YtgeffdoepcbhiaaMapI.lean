/-
  Map, of elements of one type to such as stand for themselves.
-/
import Derived.Test.YtgeffdoepcbhiaaKeepI
import Derived.Test.YtgeffdoepcbhiaaRegIn
namespace Go.Proofs.Ytgeffdoepcbhiaa
open Go.RowKit Go.Shelf
set_option linter.unusedSimpArgs false
set_option linter.unusedVariables false
attribute [local go_sem] Oper.semAt_some

/-- What holds while Map's sequence goes through the one that it is made of. -/
def MapJI {α β : Type} (f : α → β) (D : β → Value) (E : EncR α) (Xf : NSet) (fv tv : Value) (bf bt : Nat) (J : List β → NSet → World → Prop) (pre : List α) (F : NSet) (W : World) : Prop :=
  ((J (pre.map f) F W ∧ Blk W bf [fv] 50 ∧ ¬ F bf) ∧ Blk W bt [tv] 24 ∧ ¬ F bt) ∧ FnOk Try.prog fv E D f Xf W ∧ ∀ k, Xf k → ¬ F k
theorem MapJI.stab {α β : Type} {f : α → β} {D : β → Value} {E : EncR α} {Xf : NSet} {fv tv : Value} {bf bt : Nat} {J : List β → NSet → World → Prop} {B B' : Nat} {C : NSet} (h : ∀ pre, Stab B C (J pre)) (hB : B ≤ B') (hi : bf < B' ∧ ¬ C bf) (ht : bt < B' ∧ ¬ C bt) (hX : ∀ k, Xf k → k < B' ∧ ¬ C k) (pre : List α) : Stab B' C (MapJI f D E Xf fv tv bf bt J pre) :=
  (((h _).blk hB hi.1 hi.2).blk (Nat.le_refl _) ht.1 ht.2).fnok (Nat.le_refl _) hX
theorem ld_fyI {w : World} {ρ : Operand → Value} {dst : Option Tmp} {ty : TypeId} {x : Operand} {pos : String} {aft : Array Edge} {gd : Option (Nat × Bool)} {b : Nat} {v : Value} (hx : ρ x = .pointer (some ⟨b, 0, none⟩)) (hb : Blk w b [v] 24) :
    (execOp ρ ⟨dst, .load 24 x, ty, pos, aft, gd⟩).run Try.prog w = .ok (.value v) w := by
  have c : w.cell? ⟨b, 0, none⟩ = some v := hb.cell 0
  simp [execOp, Instr.loadAt, hx, Instr.sureAddr, loadVar, isAgg, run_underlying Try.underlying24, go_sem, c]
theorem ld_ffI {w : World} {ρ : Operand → Value} {dst : Option Tmp} {ty : TypeId} {x : Operand} {pos : String} {aft : Array Edge} {gd : Option (Nat × Bool)} {b : Nat} {v : Value} (hx : ρ x = .pointer (some ⟨b, 0, none⟩)) (hb : Blk w b [v] 50) :
    (execOp ρ ⟨dst, .load 50 x, ty, pos, aft, gd⟩).run Try.prog w = .ok (.value v) w := by
  have c : w.cell? ⟨b, 0, none⟩ = some v := hb.cell 0
  simp [execOp, Instr.loadAt, hx, Instr.sureAddr, loadVar, isAgg, run_underlying Try.underlying50, go_sem, c]
theorem mvI {w : World} {ρ : Operand → Value} {dst : Option Tmp} {ty : TypeId} {x : Operand} {pos : String} {aft : Array Edge} {gd : Option (Nat × Bool)} {v : Value} (hx : ρ x = v) :
    (execOp ρ ⟨dst, .move x, ty, pos, aft, gd⟩).run Try.prog w = .ok (.value v) w := by
  simp [execOp, hx, go_sem]
theorem asI {w : World} {ρ : Operand → Value} {dst : Option Tmp} {ty : TypeId} {x : Operand} {pos : String} {aft : Array Edge} {gd : Option (Nat × Bool)} {v : Value} (hx : ρ x = v) :
    (execOp ρ ⟨dst, .assign x, ty, pos, aft, gd⟩).run Try.prog w = .ok (.value v) w := by
  simp [execOp, hx, go_sem]

set_option maxRecDepth 100000 in
set_option maxHeartbeats 1000000 in
theorem mapwI {α β : Type} {f : α → β} {D : β → Value} {E : EncR α} {xs : List α} {B : Nat} {F0 C X Xf : NSet} {fv tv : Value} {J Jx : List β → NSet → World → Prop} (htv : IsFn tv) (hfv : IsFn fv) (hE : EOk X E) (hSJ : ∀ pre, Stab B C (J pre)) (ht : Takes Try.prog (EncD D) (xs.map f) B F0 tv J Jx)
    {bf bt B' : Nat} (hB : B ≤ B') (hbf : bf < B') (hbt : bt < B') (hXf : ∀ k, Xf k → k < B') :
    Takes Try.prog E xs B' F0 (.func (.func 57) #[] #[.pointer (some ⟨bt, 0, none⟩), .pointer (some ⟨bf, 0, none⟩)]) (MapJI f D E Xf fv tv bf bt J) (MapJI f D E Xf fv tv bf bt Jx) := by
  rintro pre x post F G v W hxs ⟨⟨⟨hJ, hBf, hnf⟩, hBt, hnt⟩, hfn, hnX⟩ hBW hF hEx hG
  have hGf : ¬ G bf := fun h => by have := (hG bf h).2; omega
  have hGt : ¬ G bt := fun h => by have := (hG bt h).2; omega
  have hGX : ∀ k, Xf k → ¬ G k := fun k h1 h2 => by have := (hG k h2).2; have := hXf k h1; omega
  have hltf := hBf.lt
  have hltt := hBt.lt
  have HBt := hide hBt
  have HBf := hide hBf
  have HFn := hide hfn
  have HEx := hide hEx
  -- the taker, in a world in which nothing has changed
  have Hyc : Hid (∀ w2, Kept (fun _ => False) W w2 → YC Try.prog tv #[D (f x)] w2 (fun e w3 => ∃ b, e = .returned (.bool b) ∧ Blk w3 bf [fv] 50 ∧ Blk w3 bt [tv] 24 ∧ Handed (MapJI f D E Xf fv tv bf bt J) (MapJI f D E Xf fv tv bf bt Jx) (pre ++ [x]) F G W (.returned (.bool b)) w3)) := hide (fun w2 hk2 => by
    have hs2 := hk2.size
    have hxs2 : xs.map f = pre.map f ++ f x :: post.map f := by rw [hxs, List.map_append, List.map_cons]
    refine (ht (pre.map f) (f x) _ F (fun _ => False) (D (f x)) w2 hxs2 ((hSJ _).none hJ hk2) (by omega) (fun k hk => (hF k hk).elim .inl (fun h => .inr (by omega))) ⟨rfl, fun _ h => h⟩ (fun k hk => hk.elim)).mono ?_
    rintro e w3 ⟨F', hcase, hk3, hF'⟩
    have hn' : ∀ j, j < W.heap.size → ¬ F j → ¬ F' j := fun j hj h1 h3 => by
      rcases hF' j h3 with h | h | h
      · exact h1 h
      · exact h
      · omega
    have hbf3 := hk3.blk (hk2.blk hBf (fun h => h)) (fun h => h.elim hnf (fun h => h))
    have hbt3 := hk3.blk (hk2.blk hBt (fun h => h)) (fun h => h.elim hnt (fun h => h))
    have hgen : ∀ I : List β → NSet → World → Prop, I (pre.map f ++ [f x]) F' w3 → MapJI f D E Xf fv tv bf bt I (pre ++ [x]) F' w3 := fun I hI =>
      ⟨⟨⟨by rw [List.map_append]; exact hI, hbf3, hn' bf hltf hnf⟩, hbt3, hn' bt hltt hnt⟩, (hfn.kept hk2 (fun _ h => h.elim)).kept hk3 (fun k h1 h2 => h1.elim (hnX k h2) (fun h => h)), fun k h => hn' k (by have := hXf k h; omega) (hnX k h)⟩
    have hk03 : Kept (fun k => F k ∨ G k) W w3 := (hk2.mono (T := fun k => F k ∨ G k) (fun _ _ h => h.elim)).trans hk3 (fun _ _ h => h.elim .inl (fun h => h.elim))
    have hF3 : ∀ k, F' k → F k ∨ G k ∨ W.heap.size ≤ k := fun k h => (hF' k h).elim .inl (fun h => h.elim (fun h => h.elim) (fun h => .inr (.inr (by omega))))
    rcases hcase with ⟨rfl, hJ3⟩ | ⟨rfl, hJ3⟩
    · exact ⟨true, rfl, hbf3, hbt3, F', .inl ⟨rfl, hgen _ hJ3⟩, hk03, hF3⟩
    · exact ⟨false, rfl, hbf3, hbt3, F', .inr ⟨rfl, hgen _ hJ3⟩, hk03, hF3⟩)
  obtain ⟨ff, fl, rfl⟩ := hfv
  obtain ⟨tf, tl, rfl⟩ := htv
  obtain ⟨u, hu⟩ : ∃ u, u = D (f x) := ⟨_, rfl⟩
  have Hyf : Hid (∀ w1, Kept (fun _ => False) W w1 → w1.heap = W.heap → YC Try.prog (.func ff #[] fl) #[v] w1 (fun e W'' => e = .returned u ∧ Kept (fun _ => False) w1 W'')) := hide (fun w1 hk1 hh => by
    rw [hu]
    exact (hfn w1 _ hk1 (fun _ h => h.elim)) x v G (by
      exact hE _ _ _ _ _ _ hEx hk1 (fun _ h => h.elim)))
  rw [← hu] at Hyc
  clear hBt hBf hJ hEx ht hSJ hG hF hxs hfn hu
  refine .inl ⟨_, _, rfl, enters_of Try.func57 (by kernel_rfl) rfl, ?_⟩
  show Calls Try.prog 57 #[v, .pointer (some ⟨bt, 0, none⟩), .pointer (some ⟨bf, 0, none⟩)] W _
  refine (callsIn_wide (n := 4)).1 (callsIn_of_wp Try.func57 rfl trivial ?_ rfl)
  simp only [Try.ntmps57, List.size_toArray, List.length_cons, List.length_nil, Nat.reduceAdd, Nat.reduceSub, Array.replicate_succ, Array.replicate_zero, List.push_toArray, List.append_toArray, List.nil_append, List.cons_append]
  gi_wp2
  refine region_I 6 Try.mixed ?_
  intro w1 hk1 hh1
  refine ⟨fun U => Blk U bf [.func ff #[] fl] 50 ∧ Blk U bt [.func tf #[] tl] 24, ?_⟩
  have hS1 : Blk w1 bf [.func ff #[] fl] 50 ∧ Blk w1 bt [.func tf #[] tl] 24 := ⟨hk1.blk HBf.out (fun h => h), hk1.blk HBt.out (fun h => h)⟩
  refine tkI 0 5 hS1 rfl rfl (by kernel_rfl) (by kernel_rfl) (by kernel_rfl) (by kernel_rfl) rfl (fun _ _ _ h => h) (fun U hU => ld_fyI rfl hU.2) ?_
  refine tkI 1 6 hS1 rfl rfl (by kernel_rfl) (by kernel_rfl) (by kernel_rfl) (by kernel_rfl) rfl (fun _ _ _ h => h) (fun U hU => ld_ffI rfl hU.1) ?_
  refine tkI 2 7 hS1 rfl rfl (by kernel_rfl) (by kernel_rfl) (by kernel_rfl) (by kernel_rfl) rfl (fun _ _ _ h => h) (fun U hU => mvI rfl) ?_
  refine oneYI 3 8 (yv := .func ff #[] fl) (vy := v) (by kernel_rfl) rfl rfl rfl rfl (Hyf.out w1 hk1 hh1) ?_
  rintro e w2 ⟨rfl, hk2⟩
  have hk02 : Kept (fun _ => False) W w2 := hk1.trans hk2 (fun _ _ h => h)
  refine ⟨_, rfl, fun _ => ⟨hk2.blk hS1.1 (fun h => h), hk2.blk hS1.2 (fun h => h)⟩, ?_⟩
  refine oneYI 4 9 (yv := .func tf #[] tl) (vy := u) (by kernel_rfl) rfl rfl rfl rfl (Hyc.out w2 hk02) ?_
  rintro e w3 ⟨b, rfl, hb1, hb2, hfin⟩
  have Hfin := hide hfin
  clear hfin
  refine ⟨_, rfl, fun _ => ⟨hb1, hb2⟩, ?_⟩
  refine oneVI 5 4 (by kernel_rfl) rfl rfl rfl (fun _ => by simp) (asI rfl) (fun _ => ⟨hb1, hb2⟩) ?_
  refine doneI (by kernel_rfl) ?_
  simp only [put_lit, List.set_cons_succ, List.set_cons_zero]
  gi_wp2
  go_ret
  exact Hfin.out
/-- What was asked of the sequence that Map's is made of. -/
def MapPI {α β : Type} (f : α → β) (Post : Bool → List α → World → Prop) (b : Bool) (pre : List β) (W : World) : Prop := ∃ q, Post b q W ∧ q.map f = pre

set_option maxRecDepth 100000 in
set_option maxHeartbeats 1000000 in
theorem map1_atI {α β : Type} {f : α → β} {D : β → Value} {sv fv : Value} {E : EncR α} {xs : List α} {X C Xf : NSet} {Post : Bool → List α → World → Prop} {W : World} {bs bi : Nat} (hs : SeqOk Try.prog sv E xs X C Post W) (hfv : IsFn fv) (hf : FnOk Try.prog fv E D f Xf W) (hXf : ∀ k, Xf k → k < W.heap.size ∧ ¬ C k)
    (hbs : Blk W bs [sv] 27) (hbi : Blk W bi [fv] 50) (hcb : ¬ C bs ∧ ¬ C bi) :
    FSeqAt Try.prog (.func (.func 56) #[] #[.pointer (some ⟨bs, 0, none⟩), .pointer (some ⟨bi, 0, none⟩)]) (EncD D) (xs.map f) (fun k => X k ∨ Xf k ∨ k = bs ∨ k = bi) C (MapPI f Post) W := by
  intro tv J Jx F0 htv hJ hJx hF0 ht h0
  have hlts := hbs.lt
  have hlti := hbi.lt
  have hlt0 := (hJ []).lt _ _ h0
  have Hrun : Hid (∀ w1, Kept (fun _ => False) W w1 → w1.heap.size = W.heap.size + 1 → Blk w1 W.heap.size [tv] 24 → Calls Try.prog 38 #[sv, .func (.func 57) #[] #[.pointer (some ⟨W.heap.size, 0, none⟩), .pointer (some ⟨bi, 0, none⟩)]] w1 fun e W' => (∃ u, e = .returned u) ∧ FEnded J Jx (xs.map f) C (MapPI f Post) F0 W (.returned (.tuple #[])) W') := hide (fun w1 hk1 hz1 hb1 => by
    have hCt : ¬ C W.heap.size := fun h => by have := hs.lt _ (.inr h); omega
    refine (each_atI (hs.kept hk1 (fun _ h => h.elim)) (tv := .func (.func 57) #[] #[.pointer (some ⟨W.heap.size, 0, none⟩), .pointer (some ⟨bi, 0, none⟩)]) (J := MapJI f D E Xf fv tv bi W.heap.size J) (Jx := MapJI f D E Xf fv tv bi W.heap.size Jx) (F0 := F0) ⟨_, _, rfl⟩
      (MapJI.stab hJ (by omega) ⟨by omega, hcb.2⟩ ⟨by omega, hCt⟩ (fun k h => ⟨by have := (hXf k h).1; omega, (hXf k h).2⟩)) (MapJI.stab hJx (by omega) ⟨by omega, hcb.2⟩ ⟨by omega, hCt⟩ (fun k h => ⟨by have := (hXf k h).1; omega, (hXf k h).2⟩))
      (fun k h => ⟨fun hx => (hF0 k h).1 (.inl hx), (hF0 k h).2⟩) (mapwI htv hfv hs.enc hJ ht (by omega) (by omega) (by omega) (fun k h => by have := (hXf k h).1; omega))
      ⟨⟨⟨(hJ []).none h0 hk1, hk1.blk hbi (fun h => h), fun h => (hF0 _ h).1 (.inr (.inr (.inr rfl)))⟩, hb1, fun h => by have := hlt0 _ h; omega⟩, hf.kept hk1 (fun _ h => h.elim), fun k h1 h2 => (hF0 k h2).1 (.inr (.inl h1))⟩).mono ?_
    rintro e W' ⟨b, rfl, hkW, hcase⟩
    refine ⟨⟨_, rfl⟩, ⟨_, rfl⟩, b, (hk1.mono (T := fun k => F0 k ∨ C k) (fun _ _ h => h.elim)).trans hkW (fun _ _ h => h), ?_⟩
    rcases hcase with ⟨rfl, F', ⟨⟨⟨h, _⟩, _⟩, _⟩, hF', hP⟩ | ⟨rfl, pre, F', ⟨post, hpre⟩, ⟨⟨⟨h, _⟩, _⟩, _⟩, hF', hP⟩
    · exact .inl ⟨rfl, F', h, fun k hk => (hF' k hk).elim .inl (fun h => .inr (by omega)), _, hP, rfl⟩
    · exact .inr ⟨rfl, _, F', ⟨post.map f, by rw [hpre, List.map_append]⟩, h, fun k hk => (hF' k hk).elim .inl (fun h => .inr (by omega)), _, hP, rfl⟩)
  have c0 : W.cell? ⟨bs, 0, none⟩ = some sv := hbs.cell 0
  have HBs := hide hbs
  obtain ⟨tf, tl, rfl⟩ := htv
  clear hs hf hXf hbs hbi hcb hJ hJx hF0 ht h0 hlt0 hlti
  refine .inl ⟨_, _, rfl, enters_of Try.func56 (by kernel_rfl) rfl, ?_⟩
  show Calls Try.prog 56 #[.func tf #[] tl, .pointer (some ⟨bs, 0, none⟩), .pointer (some ⟨bi, 0, none⟩)] W _
  go_enter Try.func56, Try.ntmps56
  go_wp2_with (first
    | ((with_reducible refine aw_box (t := 24) (v := .func tf #[] tl) rfl ?_); intro w1 hb1 hk1 hz1; have c1 : w1.cell? ⟨bs, 0, none⟩ = some sv := (hk1.blk HBs.out (fun h => h)).cell 0; have Hr1 := hide (Hrun.out w1 hk1 hz1 hb1); clear hb1 hz1 c0)
    | fail)
  refine Hr1.out.mono ?_
  rintro e w2 ⟨⟨u, rfl⟩, ⟨u2, hu2⟩, hend⟩
  have HE := hide hend
  clear hend
  go_wp2
  go_end0
  exact ⟨⟨_, rfl⟩, HE.out⟩
theorem map_okI {α β : Type} {f : α → β} {D : β → Value} {sv fv : Value} {E : EncR α} {xs : List α} {X C Xf : NSet} {Post : Bool → List α → World → Prop} {W : World} {bs bi : Nat} (hs : SeqOk Try.prog sv E xs X C Post W) (hfv : IsFn fv) (hf : FnOk Try.prog fv E D f Xf W) (hXf : ∀ k, Xf k → k < W.heap.size ∧ ¬ C k)
    (hbs : Blk W bs [sv] 27) (hbi : Blk W bi [fv] 50) (hcb : ¬ C bs ∧ ¬ C bi) :
    SeqOk Try.prog (.func (.func 56) #[] #[.pointer (some ⟨bs, 0, none⟩), .pointer (some ⟨bi, 0, none⟩)]) (EncD D) (xs.map f) (fun k => X k ∨ Xf k ∨ k = bs ∨ k = bi) C (MapPI f Post) W := by
  refine ⟨.inl ⟨_, _, rfl⟩, ?_, ?_, ?_, ?_, ?_⟩
  · rintro k ((h | h | h | h) | h)
    · exact hs.lt k (.inl h)
    · exact (hXf k h).1
    · rw [h]; exact hbs.lt
    · rw [h]; exact hbi.lt
    · exact hs.lt k (.inr h)
  · rintro k (h | h | h | h)
    · exact hs.apart k h
    · exact (hXf k h).2
    · rw [h]; exact hcb.1
    · rw [h]; exact hcb.2
  · exact EncD.ok _ _
  · rintro b pre W W' S ⟨q, h1, h2⟩ hk hS
    exact ⟨q, hs.post _ _ _ _ _ h1 hk hS, h2⟩
  · intro _ W' S hk hS
    exact map1_atI (hs.kept hk (fun k h => ⟨fun hx => (hS k h).1 (.inl hx), (hS k h).2⟩)) hfv (hf.kept hk (fun k h hx => (hS k h).1 (.inr (.inl hx)))) (fun k h => ⟨Nat.lt_of_lt_of_le (hXf k h).1 hk.size, (hXf k h).2⟩)
      (hk.blk hbs (fun h => (hS _ h).1 (.inr (.inr (.inl rfl))))) (hk.blk hbi (fun h => (hS _ h).1 (.inr (.inr (.inr rfl))))) hcb

theorem eqmfI (fn : Fn) (lb : Array Value) (w : World) : (binOp .eql 50 (.func fn #[] lb) .nilFunc).run Try.prog w = .ok (.bool false) w := by
  have h : ∀ d : Nat, (Op.equalIn (d + 1) 50 (.func fn #[] lb) .nilFunc).run Try.prog w = .ok false w := fun d => by
    simp [Op.equalIn, run_underlying Try.underlying50]
  simp only [binOp]
  simp [Op.equal, Op.maxDepth, h 9999]
theorem eqmnI (w : World) : (binOp .eql 50 .nilFunc .nilFunc).run Try.prog w = .ok (.bool true) w := by
  have h : ∀ d : Nat, (Op.equalIn (d + 1) 50 .nilFunc .nilFunc).run Try.prog w = .ok true w := fun d => by
    simp [Op.equalIn, run_underlying Try.underlying50]
  simp only [binOp]
  simp [Op.equal, Op.maxDepth, h 9999]
set_option maxHeartbeats 1000000 in
theorem map_atI (W : World) (sv fv : Value) (hsv : sv.cells = #[sv]) (hfv : IsFn fv) :
    Calls Try.prog 25 #[sv, fv] W fun e W' => ∃ bs bi, e = .returned (.func (.func 56) #[] #[.pointer (some ⟨bs, 0, none⟩), .pointer (some ⟨bi, 0, none⟩)]) ∧ Blk W' bs [sv] 27 ∧ Blk W' bi [fv] 50 ∧ Kept (fun _ => False) W W' ∧ W.heap.size ≤ bs ∧ W.heap.size ≤ bi := by
  obtain ⟨ff, fl, rfl⟩ := hfv
  have Hsv := hide hsv
  clear hsv
  go_enter Try.func25, Try.ntmps25
  go_wp2_with (first
    | ((with_reducible refine aw_box (t := 27) (v := sv) rfl ?_); intro w1 hb1 hk1 hz1; have Hz1 := hide hz1; have Hb1 := hide hb1; have Hk1 := hide hk1; clear hz1 hb1 hk1)
    | ((with_reducible refine aw_box (t := 50) (v := .func ff #[] fl) rfl ?_); intro w2 hb2 hk2 hz2; have c1 : w2.cell? ⟨w1.heap.size, 0, none⟩ = some (.func ff #[] fl) := hb2.cell 0; have Hz2 := hide hz2; have Hb2 := hide hb2; have Hk2 := hide hk2; clear hz2 hb2 hk2; have hq := eqmfI ff fl w2))
  go_ret
  have hz1 := Hz1.out
  have hb1 := Hb1.out
  rw [Hsv.out] at hb1
  exact ⟨_, _, rfl, Hk2.out.blk hb1 (fun h => h), Hb2.out, Hk1.out.trans Hk2.out (fun _ _ h => h), Nat.le_refl _, by omega⟩
set_option maxHeartbeats 1000000 in
/-- Nothing is so. -/
theorem map_nilI (W : World) (sv : Value) : Calls Try.prog 25 #[sv, .nilFunc] W fun e W' => ∃ b v', e = .returned (.func (.func 43) #[] #[.pointer (some ⟨b, 0, none⟩)]) ∧ Blk W' b [v'] 22 ∧ W'.ownsRow 0 3 1 v' 0 [] ∧ Kept (fun _ => False) W W' ∧ W.heap.size ≤ b ∧ (∀ k, v'.ownBlock = some k → W.heap.size ≤ k) := by
  go_enter Try.func25, Try.ntmps25
  go_wp2_with (first
    | ((with_reducible refine aw_box (t := 27) (v := sv) rfl ?_); intro w1 hb1 hk1 hz1; have Hz1 := hide hz1; have Hk1 := hide hk1; clear hz1 hb1 hk1)
    | ((with_reducible refine aw_box (t := 50) (v := .nilFunc) rfl ?_); intro w2 hb2 hk2 hz2; have c1 : w2.cell? ⟨w1.heap.size, 0, none⟩ = some .nilFunc := hb2.cell 0; have Hz2 := hide hz2; have Hk2 := hide hk2; clear hz2 hb2 hk2; have hq := eqmnI w2)
    | (go_at_call 11; refine (of_atI w2 (.slice none 0 0) [] ⟨none, 0, rfl, by simp, fun h => by simp at h, fun _ => rfl⟩ (by simp) (by simp)).mono ?_; rintro e w3 ⟨b, v', rfl, h1, h2, h3, h4, h5⟩; have H1 := hide h1; have H2 := hide h2; have H3 := hide h3; have H5 := hide h5; clear h1 h2 h3 h5))
  go_ret
  have hz1 := Hz1.out
  have hz2 := Hz2.out
  exact ⟨b, v', rfl, H1.out, H2.out, (Hk1.out.trans Hk2.out (fun _ _ h => h)).trans H3.out (fun _ _ h => h), by omega, fun k h => by have := H5.out k h; omega⟩
end Go.Proofs.Ytgeffdoepcbhiaa
