/-
  What is found behind the crash, and the calls that find it.
-/
import Derived.Test.YtbbhchmdggfncaaJ40
namespace Go.Proofs.Ytbbhchmdggfncaa
open Go.RowKit Go.Shelf
set_option linter.unusedSimpArgs false
set_option linter.unusedVariables false
set_option maxRecDepth 100000

/-- What was found, in both epochs. -/
structure FndE (pre : List (List It)) (l : List It) (sure : Nat) (L : List (List Nat)) (C1 : List (List It)) (C2 : List It) : Prop where
  fnd : Fnd pre l L C1 C2
  one : ∃ T : List En × Int, opRun 9 1 (segB 0 6 9 L) 6 0 0 = T ∧ T.1.length ≤ 100000 ∧ comE T.1 = comR (C1 ++ [C2]) ∧ T.2 = ((9 * C1.length + itsN C2 : Nat) : Int)
  pre : ∃ t, comR (pre ++ [l]) = comR (C1 ++ [C2]) ++ t
  sure : sure ≤ (comR (C1 ++ [C2])).length
theorem mk_found {pre : List (List It)} {l : List It} {L : List (List Nat)} (so : SegsOk 9 1 pre l) (pl : pre.length < 6) (hLn : L.length = 200) (hL : ∀ x ∈ L, x.length = 64) (hor : ∀ (p : Nat) (y : List Nat), L[p]? = some y → y = z64 ∨ layAt 9 (pre ++ [l]) p = some y) {pf : List (List It)} {lf : List It} (hg : Grows pf lf pre l) (hsure : ∀ (p : Nat) (y : List Nat), layAt 9 (pf ++ [lf]) p = some y → L[p]? = some y) :
    ∃ C1 C2, FndE pre l (comR (pf ++ [lf])).length L C1 C2 := by
  obtain ⟨M, m1, m2, m3, m4⟩ := open_keeps (sz := 9) (n := 200) (by decide) (e0 := 1) (by decide) z64_bad z64_len so (sg := 6) (by omega) (by decide) hLn hL hor hg hsure
  obtain ⟨c1, c2, c3⟩ := cut_ok so M
  have hflat := so.flat pl
  have hlen : ((tellAll 9 0 (pre ++ [l])).take M).length ≤ 100000 := by
    rw [List.length_take, tellAll_length]
    omega
  have hcom := comE_cut 9 (pre ++ [l]) M so.sw
  obtain ⟨f1, f2⟩ := found_keeps (sz := 9) hg m3
  rw [hcom] at f1 f2
  refine ⟨(cutS (pre ++ [l]) M).1, (cutS (pre ++ [l]) M).2, ⟨so, pl, hLn, hL, hor, c1, by omega, c3, m4, ⟨_, m1 2 (by decide), hlen, hcom⟩⟩, ⟨_, m1 1 (by decide), hlen, hcom, ?_⟩, f1, f2⟩
  show endAll 9 0 (pre ++ [l]) M = _
  rw [cutS_end, Nat.zero_add]
  omega
theorem crash_found {w0 w : World} {b db : Nat} {pre : List (List It)} {l : List It} {L : List (List Nat)} {W : List (Nat × List Nat)} {c : Nat} (h : StK w0 w b db pre l L W c) (kv : Value) (ks : List Bool) (hkp : ∀ w' F, Kept (fun _ => False) w0 w' → (∀ k, F k → w0.heap.size ≤ k) → D.keepIs w' kv ks F) {P : World → Prop} (hP : Carr P w)
    {pf : List (List It)} {lf : List It} (hg : Grows pf lf pre l) (hsure : ∀ p y, layAt 9 (pf ++ [lf]) p = some y → L[p]? = some y) {sure : Nat} (hs : sure = (comR (pf ++ [lf])).length) :
    Calls Try.prog 10 #[.pointer (some ⟨db, 0, none⟩), kv] w fun e w' => e = .returned (.tuple #[]) ∧ Carr P w' ∧ ∃ L' en C1 C2, Rg w0 w' b 200 ⟨db, 0, 6, 9, en⟩ (devL L' [] c) [] ∧ FndE pre l sure L' C1 C2 := by
  refine (h.crash kv ks hkp hP hg hsure).mono ?_
  rintro e w' ⟨rfl, h1, L', en, h2, h3, h4, h5, h6⟩
  obtain ⟨C1, C2, h7⟩ := mk_found h.so h.pl h3 h4 h5 hg h6
  rw [← hs] at h7
  exact ⟨rfl, h1, L', en, C1, C2, h2, h7⟩
theorem rv_slice {w : World} {v : Value} {R : List Rv} (h : RvOwn w v R) : ∃ a c, v = .slice a R.length c := by
  obtain ⟨a, c, e⟩ := ownsRow_slice h.1
  exact ⟨a, c, e⟩
theorem commits1 {w0 w : World} {b db en : Nat} {pre : List (List It)} {l : List It} {sure : Nat} {L : List (List Nat)} {C1 : List (List It)} {C2 : List It} {c : Nat} (hg : Rg w0 w b 200 ⟨db, 0, 6, 9, en⟩ (devL L [] c) []) (hf : FndE pre l sure L C1 C2) {P : World → Prop} (hP : Carr P w) :
    Calls Try.prog 11 #[.pointer (some ⟨b, 0, none⟩), .int .i64 1] w fun e w' => ∃ (s : Sl) (R : List Rv), e = .returned (.tuple #[.slice s.a s.n s.c, .int .i64 0]) ∧ s.n = R.length ∧ Carr P w' ∧ RvOwn w' (.slice s.a s.n s.c) R ∧ R.map Rv.rc = comR (C1 ++ [C2]) ∧ Rg w0 w' b 200 ⟨db, 0, 6, 9, 9 * C1.length + itsN C2⟩ (devL L [] c) [] := by
  obtain ⟨T, t1, t2, t3, t4⟩ := hf.one
  refine (rgCommits hg hf.fnd.len hf.fnd.l64 hf.fnd.lt 1 (by decide) t1 t2 hP).mono ?_
  rintro e w' ⟨v, R, rfl, h1, h2, h3, _, en', h4, h5⟩
  obtain ⟨a, cp, rfl⟩ := rv_slice h2
  rw [t4] at h4
  have : en' = 9 * C1.length + itsN C2 := by omega
  subst this
  exact ⟨⟨a, R.length, cp⟩, R, rfl, rfl, h1, h2, by rw [h3, t3], h5⟩
def Out2 (w0 w' : World) (b db : Nat) (F : List Rc) (r : Rc) (ec : Int) : Prop :=
  ∃ L2 c2 en2, Rg w0 w' b 200 ⟨db, 0, 6, 9, en2⟩ (devL L2 [] c2) [] ∧ L2.length = 200 ∧ (∀ x ∈ L2, x.length = 64) ∧ (∀ x ∈ L2, ∀ y ∈ x, y < 256) ∧
    ∃ T : List En × Int, opRun 9 2 (segB 0 6 9 L2) 6 0 0 = T ∧ T.1.length ≤ 100000 ∧ ((ec = 0 ∧ comE T.1 = F ++ [r]) ∨ (ec = 30 ∧ comE T.1 = F))
theorem Out.flush {w0 w : World} {b db : Nat} {L : List (List Nat)} {c : Nat} {F : List Rc} {r : Rc} {ec : Int} (h : Out w0 w b db L c F r ec) (hL : L.length = 200) (h64 : ∀ x ∈ L, x.length = 64) (hlt : ∀ x ∈ L, ∀ y ∈ x, y < 256) (hc : c ≤ 100000) {P : World → Prop} (hP : Carr P w) :
    Calls Try.prog 8 #[.pointer (some ⟨db, 0, none⟩)] w fun e w' => e = .returned (.int .i64 0) ∧ Carr P w' ∧ Out2 w0 w' b db F r ec := by
  obtain ⟨W2, c2, en2, h1, h2, h3, h4, h5⟩ := h
  obtain ⟨F2, hd, hst⟩ := h1.devStep
  have hW : ∀ p ∈ W2, p.1 < L.length ∧ p.2.length = 64 := fun p hp => by rw [hL]; exact h2 p hp
  have hl := devL_flush h64 hW c2
  refine (D.flush_at w db 200 _ F2 hd (by show c2 < _; omega)).mono ?_
  rintro e w' ⟨rfl, hs⟩
  have h6 := hst _ _ hs
  rw [hl.2] at h6
  exact ⟨by rw [hl.1], hP.kept hs.1 (fun k L t hf hb => dev_ty hd hf hb), _, _, _, h6, by rw [laidL_length, hL], laidL_64 h64 hW _, laid_lt hlt h3, h5⟩
theorem Out2.commits {w0 w : World} {b db : Nat} {F : List Rc} {r : Rc} {ec : Int} (h : Out2 w0 w b db F r ec) {P : World → Prop} (hP : Carr P w) :
    Calls Try.prog 11 #[.pointer (some ⟨b, 0, none⟩), .int .i64 2] w fun e w' => ∃ (s : Sl) (R : List Rv), e = .returned (.tuple #[.slice s.a s.n s.c, .int .i64 0]) ∧ s.n = R.length ∧ Carr P w' ∧ RvOwn w' (.slice s.a s.n s.c) R ∧ ((ec = 0 ∧ R.map Rv.rc = F ++ [r]) ∨ (ec = 30 ∧ R.map Rv.rc = F)) ∧ Kept (fun _ => False) w0 w' := by
  obtain ⟨L2, c2, en2, h1, h2, h3, h4, T, t1, t2, t3⟩ := h
  refine (rgCommits h1 h2 h3 h4 2 (by decide) t1 t2 hP).mono ?_
  rintro e w' ⟨v, R, rfl, g1, g2, g3, _, en', _, g5⟩
  obtain ⟨a, cp, rfl⟩ := rv_slice g2
  refine ⟨⟨a, R.length, cp⟩, R, rfl, rfl, g1, g2, ?_, g5.kept⟩
  rw [g3]
  exact t3
theorem flatV_at : ∀ (R : List Rv) (C : List Value) (k : Nat) (hk : k < R.length), ((R.flatMap rvC ++ C).drop (k * 4)).take 4 = rvC R[k]
  | y :: R, C, 0, _ => by simp [rvC]
  | y :: R, C, k + 1, h => by
    have h1 := flatV_at R C k (by simpa using h)
    have e : ((y :: R).flatMap rvC ++ C).drop ((k + 1) * 4) = (R.flatMap rvC ++ C).drop (k * 4) := by
      rw [List.flatMap_cons, List.append_assoc, show (k + 1) * 4 = k * 4 + 1 + 1 + 1 + 1 by omega]
      rfl
    rw [e]
    simpa using h1
/-- A record at its place, in a slice of one's own. -/
theorem rv_at {w : World} {a : Option Addr} {n c : Nat} {R : List Rv} (h : RvOwn w (.slice a n c) R) {k : Nat} (hk : k < R.length) : ∃ g C, a = some ⟨g, 0, none⟩ ∧ n ≤ c ∧ Blk w g (R.flatMap rvC ++ C) 37 ∧ k * 4 + 4 ≤ (R.flatMap rvC ++ C).length ∧ ((R.flatMap rvC ++ C).drop (k * 4)).take 4 = rvC R[k] ∧ RcAt w R[k] := by
  rcases ownsRow_blk h.1 with ⟨e, e2, e3⟩ | ⟨g, cap, C, e, hb, h1, h2, h3⟩
  · have : R.length = 0 := by
      have := h.1.1
      simp_all
    omega
  · cases e
    refine ⟨g, C, rfl, ?_, hb, ?_, flatV_at R C k hk, ?_⟩
    · omega
    · have : (R.flatMap rvC).length = 4 * R.length := by
        have := h.1.1
        omega
      rw [List.length_append]
      omega
    · have h4 := h.2 _ (List.getElem_mem hk)
      exact h4.1.at (by have := h4.2; omega)
theorem rc_same {x y : Rv} (h : x.rc = y.rc) : sameR x y = true := (sameR_iff x y).2 h
end Go.Proofs.Ytbbhchmdggfncaa


/-
  Single steps of the law's last part.
-/
namespace Go.Proofs.Ytbbhchmdggfncaa
open Go.RowKit Go.Shelf
set_option linter.unusedSimpArgs false
set_option linter.unusedVariables false
set_option maxRecDepth 100000

section
variable {ρ : Operand → Value} {w : World} {dst : Option Tmp} {ty : TypeId} {pos : String} {aft : Array Edge} {gd : Option (Nat × Bool)} {x y z : Operand}
theorem r_len34 {ao : Option Addr} {l c : Nat} (hx : ρ x = .slice ao l c) : (execOp ρ ⟨dst, .call { callee := .builtin .len, args := #[x], argTypes := #[34] }, ty, pos, aft, gd⟩).run Try.prog w = .ok (.value (.int .i64 l)) w := by
  go_simp
theorem r_idx34 {b len cap : Nat} (i : Nat) (hx : ρ x = .slice (some ⟨b, 0, none⟩) len cap) (hy : ρ y = .int .i64 i) (hi : i < len) :
    (execOp ρ ⟨dst, .indexAddr 34 x y, ty, pos, aft, gd⟩).run Try.prog w = .ok (.value (.pointer (some ⟨b, i * 4, none⟩))) w := by
  have h0 : ¬ ((i : Int) < 0) := by omega
  have h1 : (i : Int) < (len : Int) := by omega
  go_simp
theorem r_ldRv {b k : Nat} {L : List Value} {e : TypeId} (v : Rv) (hx : ρ x = .pointer (some ⟨b, k, none⟩)) (hb : Blk w b L e) (hl : k + 4 ≤ L.length) (hm : (L.drop k).take 4 = rvC v) :
    (execOp ρ ⟨dst, .load 37 x, ty, pos, aft, gd⟩).run Try.prog w = .ok (.value v.agg) w := by
  rw [run_load_agg Try.agg37 hx hb hl, hm]
  rfl
theorem r_f37_2 {b : Nat} (hx : ρ x = .pointer (some ⟨b, 0, none⟩)) : (execOp ρ ⟨dst, .fieldAddr 37 x 2, ty, pos, aft, gd⟩).run Try.prog w = .ok (.value (.pointer (some ⟨b, 2, none⟩))) w := by
  go_simp
theorem r_eqlE {i j : Int} {r : Bool} (hx : ρ x = .int .i64 i) (hy : ρ y = .int .i64 j) (h : decide (i = j) = r) : (execOp ρ ⟨dst, .binOp .eql 26 x y 26, ty, pos, aft, gd⟩).run Try.prog w = .ok (.value (.bool r)) w := by
  subst h
  go_simp
  rfl
theorem r_neqE {i j : Int} {r : Bool} (hx : ρ x = .int .i64 i) (hy : ρ y = .int .i64 j) (h : decide (i ≠ j) = r) : (execOp ρ ⟨dst, .binOp .neq 26 x y 26, ty, pos, aft, gd⟩).run Try.prog w = .ok (.value (.bool r)) w := by
  subst h
  go_simp
  rw [Bool.eq_iff_iff]
  simp
theorem r_call5 {f : FuncId} {x1 x2 x3 x4 x5 : Operand} {u1 u2 u3 u4 u5 : Value} {t1 t2 t3 t4 t5 : TypeId} {fn : Func} {c : Code} (hf : Try.prog.funcs[f]? = some fn) (hn : (fn.name == "runtime.NumGoroutine") = false) (hb : fn.body = some c) (hfv : ρ (.func f) = .func (.func f) #[] #[]) (h1 : ρ x1 = u1) (h2 : ρ x2 = u2) (h3 : ρ x3 = u3) (h4 : ρ x4 = u4) (h5 : ρ x5 = u5) :
    (execOp ρ ⟨dst, .call { callee := .value (.func f), args := #[x1, x2, x3, x4, x5], argTypes := #[t1, t2, t3, t4, t5] }, ty, pos, aft, gd⟩).run Try.prog w = .ok (.enter f #[u1, u2, u3, u4, u5]) w := by
  have h := enters_of hf hn hb #[u1, u2, u3, u4, u5] w
  simp [execOp, resolve, hfv, h1, h2, h3, h4, h5, Deferred.ofValue, invoke, h]
end
section
variable {P : Program} {md : Region.Mode} {ops : Array Oper} {a : Act}
theorem wanted_undef {o oj : Oper} {j d : Nat} {bb : Bool} (hg : o.guard = some (j, bb)) (hj : ops[j]? = some oj) (hd : oj.dst = some d) (hb : a.eval (.tmp d) = undef) (hs : d < a.tmps.size) : Region.wanted o (yielded ops a.tmps) = false := by
  have hb' : a.tmps[d]? = some undef := by
    simp only [Act.eval, Array.getD_eq_getD_getElem?] at hb
    rw [Array.getElem?_eq_getElem hs] at hb ⊢
    simpa using hb
  cases bb <;> simp [Region.wanted, hg, yielded, hj, hd, hb', undef]
end
/-- The block that holds the later record. -/
def At37 (bx q : Nat) (U : World) : Prop := Blk U bx [.int .i64 3, .int .i64 1, .int .i64 (q : Nat), .slice none 0 0] 37
theorem At37.carr {bx q : Nat} {U : World} (h : At37 bx q U) : Carr (At37 bx q) U := blk_carr h (.inr (.inl rfl))
theorem At37.kept {bx q : Nat} {U V : World} (h : At37 bx q U) (hk : Kept (fun _ => False) U V) : At37 bx q V := hk.blk h (fun h => h)
/-- What the comparisons want. -/
theorem found_same {R R1 : List Rv} {F t : List Rc} (h1 : R1.map Rv.rc = F) (h2 : R.map Rv.rc = F ++ t) : R1.length ≤ R.length ∧ ∀ (k : Nat) (a : k < R1.length) (b : k < R.length), sameR R1[k] R[k] = true := by
  rw [← h1] at h2
  have hl := congrArg List.length h2
  simp only [List.length_map, List.length_append] at hl
  refine ⟨by omega, fun k a b => rc_same ?_⟩
  have h3 : (R.map Rv.rc)[k]? = (R1.map Rv.rc ++ t)[k]? := by rw [h2]
  rw [List.getElem?_append_left (by simpa using a), List.getElem?_map, List.getElem?_map, List.getElem?_eq_getElem a, List.getElem?_eq_getElem b] at h3
  simp at h3
  exact h3.symm
theorem last_same {R1 R2 : List Rv} {F : List Rc} {q : Nat} (h1 : R1.map Rv.rc = F) (h2 : R2.map Rv.rc = F ++ [rcK q 0 0]) : R2.length = R1.length + 1 ∧ ∀ (a : R1.length < R2.length), sameR R2[R1.length] (rvK0 q) = true := by
  rw [← h1] at h2
  have hl := congrArg List.length h2
  simp only [List.length_map, List.length_append, List.length_singleton] at hl
  refine ⟨hl, fun a => rc_same ?_⟩
  have h3 : (R2.map Rv.rc)[R1.length]? = (R1.map Rv.rc ++ [rcK q 0 0])[R1.length]? := by rw [h2]
  rw [List.getElem?_append_right (by simp), List.getElem?_map, List.getElem?_eq_getElem a] at h3
  simp at h3
  rw [h3, rvK0_rc]
end Go.Proofs.Ytbbhchmdggfncaa
