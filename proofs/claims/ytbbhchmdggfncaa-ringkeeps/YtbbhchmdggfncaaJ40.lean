/-
  What the law makes: a record of the number k.
-/
import Derived.Test.YtbbhchmdggfncaaJ38
import Derived.Test.YtbbhchmdggfncaaJ39
import Derived.Test.YtbbhchmdggfncaaJ35
namespace Go.Proofs.Ytbbhchmdggfncaa
open Go.RowKit Go.Shelf
set_option linter.unusedSimpArgs false
set_option linter.unusedVariables false
set_option maxRecDepth 100000

theorem built37K (k : Int) : Try.prog.built 37 [(0, .int .i64 3), (1, .int .i64 1), (2, .int .i64 k)] = some #[.int .i64 3, .int .i64 1, .int .i64 k, .slice none 0 0] := by kernel_rfl
theorem r_build37K {ρ : Operand → Value} {w : World} {dst : Option Tmp} {ty : TypeId} {pos : String} {aft : Array Edge} {gd : Option (Nat × Bool)} {x0 x1 x2 : Operand} {k : Int} (h0 : ρ x0 = .int .i64 3) (h1 : ρ x1 = .int .i64 1) (h2 : ρ x2 = .int .i64 k) :
    (execOp ρ ⟨dst, .build 37 #[(0, x0), (1, x1), (2, x2)], ty, pos, aft, gd⟩).run Try.prog w = .ok (.value (.agg #[.int .i64 3, .int .i64 1, .int .i64 k, .slice none 0 0])) w := by
  have hr := run_build (P := Try.prog) w 37 #[(0, .int .i64 3), (1, .int .i64 1), (2, .int .i64 k)] _ (by simpa using built37K k)
  simp [execOp, h0, h1, h2, hr]
theorem built39K (b : Int) (so : Option Addr) (n c : Nat) : Try.prog.built 39 [(0, .int .i64 b), (1, .slice so n c)] = some #[.int .i64 b, .slice so n c] := by kernel_rfl
theorem r_build39K {ρ : Operand → Value} {w : World} {dst : Option Tmp} {ty : TypeId} {pos : String} {aft : Array Edge} {gd : Option (Nat × Bool)} {x0 x1 : Operand} {b : Int} {so : Option Addr} {n c : Nat} (h0 : ρ x0 = .int .i64 b) (h1 : ρ x1 = .slice so n c) :
    (execOp ρ ⟨dst, .build 39 #[(0, x0), (1, x1)], ty, pos, aft, gd⟩).run Try.prog w = .ok (.value (.agg #[.int .i64 b, .slice so n c])) w := by
  have hr := run_build (P := Try.prog) w 39 #[(0, .int .i64 b), (1, .slice so n c)] _ (by simpa using built39K b so n c)
  simp [execOp, h0, h1, hr]
end Go.Proofs.Ytbbhchmdggfncaa


/-
  What goes along with a log: records of one's own, as whole blocks.
-/
namespace Go.Proofs.Ytbbhchmdggfncaa
open Go.RowKit Go.Shelf
set_option linter.unusedSimpArgs false
set_option linter.unusedVariables false
set_option maxRecDepth 100000

/-- The types of what goes along: bytes, records, writes. -/
def tyA (t : TypeId) : Prop := t = 5 ∨ t = 37 ∨ t = 39
/-- P holds in w, and wherever some whole blocks are as they are in w. -/
def Carr (P : World → Prop) (w : World) : Prop := ∃ G : List (Nat × List Value × TypeId), (∀ x ∈ G, Blk w x.1 x.2.1 x.2.2 ∧ tyA x.2.2) ∧ ∀ w', (∀ x ∈ G, Blk w' x.1 x.2.1 x.2.2) → P w'
theorem Carr.at {P : World → Prop} {w : World} (h : Carr P w) : P w := by
  obtain ⟨G, h1, h2⟩ := h
  exact h2 w (fun x hx => (h1 x hx).1)
theorem Carr.and {P Q : World → Prop} {w : World} (h : Carr P w) (k : Carr Q w) : Carr (fun w => P w ∧ Q w) w := by
  obtain ⟨G, h1, h2⟩ := h
  obtain ⟨H, k1, k2⟩ := k
  refine ⟨G ++ H, fun x hx => (List.mem_append.1 hx).elim (h1 x) (k1 x), fun w' hw => ⟨h2 w' (fun x hx => hw x (List.mem_append_left _ hx)), k2 w' (fun x hx => hw x (List.mem_append_right _ hx))⟩⟩
theorem Carr.imp {P Q : World → Prop} {w : World} (h : Carr P w) (hi : ∀ w', P w' → Q w') : Carr Q w := by
  obtain ⟨G, h1, h2⟩ := h
  exact ⟨G, h1, fun w' hw => hi w' (h2 w' hw)⟩
theorem Carr.all {α : Type} {P : α → World → Prop} {w : World} : ∀ (R : List α), (∀ y ∈ R, Carr (P y) w) → Carr (fun w => ∀ y ∈ R, P y w) w
  | [], _ => ⟨[], by simp, by simp⟩
  | y :: R, h => by
    refine ((h y (by simp)).and (Carr.all R (fun z hz => h z (by simp [hz])))).imp ?_
    rintro w' ⟨h1, h2⟩ z hz
    rcases List.mem_cons.1 hz with rfl | hz
    · exact h1
    · exact h2 z hz
theorem Carr.const {p : Prop} {w : World} (h : p) : Carr (fun _ => p) w := ⟨[], by simp, fun _ _ => h⟩
theorem row_carr {w : World} {e : TypeId} {sz n : Nat} {v : Value} {xs : List Value} (h : w.ownsRow 0 e sz v n xs) (he : tyA e) : Carr (fun w' => w'.ownsRow 0 e sz v n xs) w := by
  have hl := h.1
  rcases ownsRow_blk h with ⟨rfl, rfl, rfl⟩ | ⟨g, cap, C, rfl, hb, h1, h2, h3⟩
  · exact ⟨[], by simp, fun w' _ => World.ownsRow_nil _ _ _ _⟩
  · refine ⟨[(g, xs ++ C, e)], ?_, fun w' hw => ?_⟩
    · intro x hx
      rw [List.mem_singleton] at hx
      subst hx
      exact ⟨hb, he⟩
    · exact ownsRow_of (hw (g, xs ++ C, e) (by simp)) hl h1 h2 h3
theorem blk_carr {w : World} {b : Nat} {L : List Value} {t : TypeId} (h : Blk w b L t) (ht : tyA t) : Carr (fun w' => Blk w' b L t) w :=
  ⟨[(b, L, t)], fun x hx => by rw [List.mem_singleton] at hx; subst hx; exact ⟨h, ht⟩, fun w' hw => hw (b, L, t) (by simp)⟩
theorem own_carr {w : World} {v : Value} {A : List Nat} (h : Own w 0 v A) : Carr (fun w' => Own w' 0 v A) w :=
  ((row_carr h.1 (.inl rfl)).and (Carr.const h.2)).imp (fun w' h => h)
theorem ws_carr {w : World} {v : Value} {l : List Wv} (h : WsOwn w v l) : Carr (fun w' => WsOwn w' v l) w :=
  ((row_carr h.1 (.inr (.inr rfl))).and (Carr.all l (fun x hx => own_carr (h.2 x hx)))).imp (fun w' h => h)
theorem rv_carr {w : World} {v : Value} {R : List Rv} (h : RvOwn w v R) : Carr (fun w' => RvOwn w' v R) w :=
  ((row_carr h.1 (.inr (.inl rfl))).and (Carr.all R (fun y hy => (ws_carr (h.2 y hy).1).and (Carr.const (h.2 y hy).2)))).imp (fun w' h => h)

theorem DevAt_nbR {w : World} {b n g : Nat} {s : D.DS} {F : NSet} {L : List Value} {t : TypeId} (h : D.DevAt w b n s F) (hb : Blk w g L t) (ht : tyA t) : ¬ F g := by
  obtain ⟨bs, wv, hd, hf⟩ := h
  intro hF
  rcases (hf g).1 hF with e | e | e
  · subst e
    have := (hb.same hd.hb).2
    rcases ht with rfl | rfl | rfl <;> exact absurd this (by decide)
  · subst e
    have := (hb.same hd.hs).2
    rcases ht with rfl | rfl | rfl <;> exact absurd this (by decide)
  · exact ownsRow_blk_ne hd.hw hb (by rcases ht with rfl | rfl | rfl <;> decide) e
section
variable {w0 w w' : World} {b n : Nat} {l : Lg} {s : D.DS} {G : List (Nat × List Value × TypeId)}
theorem log_nb {g : Nat} {L : List Value} {t : TypeId} (h : LogAt w b l) (hb : Blk w g L t) (ht : tyA t) : g ≠ b := by
  intro e
  subst e
  have := (hb.same h).2
  rcases ht with rfl | rfl | rfl <;> exact absurd this (by decide)
theorem Rg.reG (h : Rg w0 w b n l s G) {H : List (Nat × List Value × TypeId)} (hH : ∀ x ∈ H, Blk w x.1 x.2.1 x.2.2 ∧ tyA x.2.2) : Rg w0 w b n l s H := by
  obtain ⟨F, h1, h2, h3, h4⟩ := h.dev
  exact ⟨⟨F, h1, h2, h3, fun x hx => DevAt_nbR h1 (hH x hx).1 (hH x hx).2⟩, h.log, h.new, h.kept, fun x hx => ⟨(hH x hx).1, log_nb h.log (hH x hx).1 (hH x hx).2⟩⟩
theorem Rg.nil (h : Rg w0 w b n l s G) : Rg w0 w b n l s [] := h.reG (by simp)
theorem Rg.carr (h : Rg w0 w b n l s []) {P : World → Prop} (hP : Carr P w) : ∃ H, Rg w0 w b n l s H ∧ ∀ w', (∀ x ∈ H, Blk w' x.1 x.2.1 x.2.2) → P w' := by
  obtain ⟨H, h1, h2⟩ := hP
  exact ⟨H, h.reG h1, h2⟩
theorem Rg.has (h : Rg w0 w b n l s G) : ∀ x ∈ G, Blk w x.1 x.2.1 x.2.2 := fun x hx => (h.blk x hx).1
/-- What changes are blocks of one's own. -/
theorem Rg.keptS (h : Rg w0 w b n l s []) {S : NSet} (hk : Kept S w w') (hS : ∀ k, S k → w0.heap.size ≤ k ∧ ∃ L t, Blk w k L t ∧ tyA t) : Rg w0 w' b n l s [] := by
  obtain ⟨F, h1, h2, h3, h4⟩ := h.dev
  refine ⟨⟨F, h1.kept hk (fun k hf hs => ?_), h2, h3, by simp⟩, hk.blk h.log (fun hs => ?_), h.new, h.kept.trans hk (fun i hi hs => by have := (hS i hs).1; omega), by simp⟩
  · obtain ⟨_, L, t, hb, ht⟩ := hS k hs
    exact DevAt_nbR h1 hb ht hf
  · obtain ⟨_, L, t, hb, ht⟩ := hS b hs
    exact log_nb h.log hb ht rfl
end
/-- The log, its device, and what lies there, between the law's acts. -/
structure StK (w0 w : World) (b db : Nat) (pre : List (List It)) (l : List It) (L : List (List Nat)) (W : List (Nat × List Nat)) (c : Nat) : Prop where
  rg : Rg w0 w b 200 ⟨db, 0, 6, 9, 9 * pre.length + itsN l⟩ (devL L W c) []
  dk : DevK 9 200 z64 (pre ++ [l]) L W
  so : SegsOk 9 1 pre l
  pl : pre.length < 6
theorem comR_turn (pre : List (List It)) (l : List It) (sw hd x : It) (h1 : sw.2.kind ≠ 3) (h2 : hd.2.kind ≠ 3) (h3 : x.2.kind = 3) : comR (pre ++ [l ++ [sw]] ++ [[hd, x]]) = comR (pre ++ [l]) ++ [x.2] := by
  simp [comR, recs, h1, h2, h3]
/-- Add in the first epoch. -/
theorem StK.add {w0 w : World} {b db : Nat} {pre : List (List It)} {l : List It} {L : List (List Nat)} {W : List (Nat × List Nat)} {c : Nat} (h : StK w0 w b db pre l L W c) (hc : c ≤ 1000) (hW : W.length ≤ 1000) (x : Rv) {P : World → Prop} (hP : Carr P w) (hx : ∀ w', P w' → RcAt w' x) {k v j : Nat} (hrc : x.rc = rcK k v j) (hk : 1 ≤ k ∧ k ≤ 1000) (hj : j ≤ 3) (hv : v < 256) :
    Calls Try.prog 9 #[.pointer (some ⟨b, 0, none⟩), x.agg, .int .i64 1, .int .i64 0] w fun e w' => ∃ p ec : Int, e = .returned (.tuple #[.int .i64 p, .int .i64 ec]) ∧ P w' ∧ ∃ pre' l' W' c', StK w0 w' b db pre' l' L W' c' ∧ c' ≤ c + 3 ∧ W'.length ≤ W.length + 8 ∧ (∀ pf lf, Grows pf lf pre l → Grows pf lf pre' l') ∧
      ((ec = 0 ∧ comR (pre' ++ [l']) = comR (pre ++ [l]) ++ [rcK k v j]) ∨ (ec = 30 ∧ comR (pre' ++ [l']) = comR (pre ++ [l]))) := by
  obtain ⟨G, hg, hG⟩ := h.rg.carr hP
  have hr : rightR x.rc = true := by rw [hrc]; exact rcK_right hk hj
  have hk3 : x.rc.kind = 3 := by rw [hrc]; rfl
  have hB : ∀ y ∈ putR x.rc, y < 256 := by rw [hrc]; exact rcK_lt hv
  have hlen : (putR x.rc).length = 15 + 66 * j := by rw [hrc]; exact rcK_len k v j
  have hl : (putR x.rc).length ≤ 10000 := by omega
  have hsect := rcK_sect k v j hj
  rw [← hrc] at hsect
  obtain ⟨m, hm⟩ : ∃ m, sectN (putR x.rc).length = m := ⟨_, rfl⟩
  rw [hm] at hsect
  have hxx : ∀ w', (∀ y ∈ G, Blk w' y.1 y.2.1 y.2.2) → RcAt w' x := fun w' hw => hx w' (hG w' hw)
  by_cases hfit : itsN l + m < 9
  · refine (rgk_in hg h.dk h.so (by decide) (by decide) (by decide) h.pl (by decide) x hxx hr hk3 hB hl m hm (by omega) 0 hfit (by omega) (by omega)).mono ?_
    rintro e w' ⟨rfl, W', h1, h2, h3, h4⟩
    refine ⟨_, _, rfl, hG w' h1.has, pre, l ++ [(1, x.rc)], W', c + 1, ⟨h1.nil, h2, h3, h.pl⟩, by omega, by omega, fun pf lf hgr => hgr.goesIn _, .inl ⟨rfl, ?_⟩⟩
    rw [comR_snoc, if_pos (show ((1 : Int), x.rc).2.kind = 3 from hk3), hrc]
  · by_cases hlow : (pre.length : Int) + 1 - 6 < 0
    · refine (rgk_turn hg h.dk h.so (by decide) (by decide) (by decide) (by omega) (by decide) x hxx hr hk3 hB hl m hm (by omega) 0 hfit (by simpa using hlow) (by omega) (by omega)).mono ?_
      rintro e w' ⟨rfl, W', h1, h2, h3, h4⟩
      refine ⟨_, _, rfl, hG w' h1.has, pre ++ [l ++ [swI 1]], [hdI 1 x.tl x.nm, (1, x.rc)], W', c + 3, ⟨h1.nil, h2, h3, by simp; omega⟩, by omega, by omega, fun pf lf hgr => by
        have := (hgr.turn (swI 1) (hdI 1 x.tl x.nm)).goesIn (1, x.rc)
        simpa using this, .inl ⟨rfl, ?_⟩⟩
      rw [comR_turn pre l (swI 1) (hdI 1 x.tl x.nm) (1, x.rc) (by simp [swI]) (by simp [hdI]) hk3, hrc]
    · refine (rgk_no hg h.so (by decide) (by decide) (by decide) h.pl x hxx hr hk3 hl m hm (by omega) 1 0 hfit (by simpa using hlow)).mono ?_
      rintro e w' ⟨rfl, h1⟩
      exact ⟨_, _, rfl, hG w' h1.has, pre, l, W, c, ⟨h1.nil, h.dk, h.so, h.pl⟩, by omega, by omega, fun _ _ h => h, .inr ⟨rfl, rfl⟩⟩
end Go.Proofs.Ytbbhchmdggfncaa


/-
  The law's beginning, its flushes, its crash; what it finds.
-/
namespace Go.Proofs.Ytbbhchmdggfncaa
open Go.RowKit Go.Shelf
set_option linter.unusedSimpArgs false
set_option linter.unusedVariables false
set_option maxRecDepth 100000

theorem Carr.kept {P : World → Prop} {w w' : World} {S : NSet} (h : Carr P w) (hk : Kept S w w') (hS : ∀ k L t, S k → Blk w k L t → ¬ tyA t) : Carr P w' := by
  obtain ⟨G, h1, h2⟩ := h
  exact ⟨G, fun x hx => ⟨hk.blk (h1 x hx).1 (fun hs => hS _ _ _ hs (h1 x hx).1 (h1 x hx).2), (h1 x hx).2⟩, h2⟩
theorem Carr.keptF {P : World → Prop} {w w' : World} (h : Carr P w) (hk : Kept (fun _ => False) w w') : Carr P w' := h.kept hk (fun _ _ _ h => h.elim)
theorem dev_ty {w : World} {b n k : Nat} {s : D.DS} {F : NSet} {L : List Value} {t : TypeId} (h : D.DevAt w b n s F) (hF : F k) (hb : Blk w k L t) : ¬ tyA t := fun ht => DevAt_nbR h hb ht hF
def L0 : List (List Nat) := List.replicate 200 z64
theorem devL0 : D.DS.new 200 = devL L0 [] 0 := by
  have := new_lit 200
  rw [this]
  rfl
theorem hd1_n : itN (hdI 1 1 1) = 1 := by
  unfold itN
  rw [show (hdI 1 1 1).2 = ⟨1, 1, 1, []⟩ from rfl, hd_len]
  rfl
theorem hd_itOk (e tl nm p : Int) (hr : rightR ⟨1, tl, nm, []⟩ = true) (he : 0 ≤ e ∧ e ≤ 4294967295) (hp : 0 ≤ p ∧ p ≤ 100000) : ItOk p (hdI e tl nm) :=
  itOk_of hr (hd_lt tl nm) he (by show (putR ⟨1, tl, nm, []⟩).length ≤ 10000; rw [hd_len]; decide) hp
theorem hd_rightK {nm : Int} (h : 1 ≤ nm ∧ nm ≤ 1000) : rightR ⟨1, 1, nm, []⟩ = true := by
  have := hd_right (r := rcK nm.toNat 0 0) (rcK_right (by omega) (by decide)) rfl
  have e : ((nm.toNat : Nat) : Int) = nm := by omega
  simpa [rcK, e] using this
theorem seg0_ok : SegsOk 9 1 [] [hdI 1 1 1] := by
  refine ⟨fun i l' h => by simp at h, ?_, ?_, by simp, by rfl, ?_⟩
  · exact ⟨hd_itOk 1 1 1 _ (hd_rightK (by decide)) (by decide) (by decide), fun _ => rfl, trivial⟩
  · refine ⟨by decide, ?_, rfl, trivial⟩
    rw [hd1_n]
    rfl
  · simp [itsN, hd1_n]
theorem dev0_ok : DevK 9 200 z64 ([] ++ [[]]) L0 [] :=
  ⟨by simp [L0], fun x hx => by rw [List.eq_of_mem_replicate hx, z64_len], by simp, fun p y h => by
    have := List.mem_of_getElem? h
    exact .inl (List.eq_of_mem_replicate this), by simp, fun p y h => by
    rw [layAt_nil] at h
    simp [layAt] at h⟩
/-- The log is begun. -/
theorem StK.start {w0 w : World} {b db : Nat} (h : Rg w0 w b 200 ⟨db, 0, 6, 9, 0⟩ (devL L0 [] 0) []) :
    Calls Try.prog 7 #[.pointer (some ⟨b, 0, none⟩), .int .i64 0, .int .i64 1, .int .i64 1, .int .i64 1] w fun e w' => e = .returned (.int .i64 0) ∧ ∃ W, StK w0 w' b db [] [hdI 1 1 1] L0 W 1 ∧ W.length ≤ 1 := by
  refine (rg2_start (a := 0) (e0 := 1) h (by decide) (by decide) (by decide) (by decide) (by decide) 1 1 (hd_rightK (by decide)) (by decide) (by decide)).mono ?_
  rintro e w' ⟨rfl, h1⟩
  obtain ⟨q1, q2, q3⟩ := layAt_snoc (sz := 9) (by decide) (pre := []) (l := []) (x := hdI 1 1 1) (by rw [hd1_n]; decide) (e := 9 * 0) rfl
  refine ⟨rfl, _, ⟨h1, dev0_ok.put q1 q2 q3 (fun q hq => ?_), seg0_ok, by decide⟩, ?_⟩
  · obtain ⟨i, hi, rfl⟩ := List.mem_map.1 hq
    have := List.mem_range.1 hi
    rw [itS_length, hd1_n] at this
    show 9 * 0 + i < 200
    omega
  · simp [putW, itS_length, hd1_n]
theorem StK.dev {w0 w : World} {b db : Nat} {pre : List (List It)} {l : List It} {L : List (List Nat)} {W : List (Nat × List Nat)} {c : Nat} (h : StK w0 w b db pre l L W c) : ∃ F, D.DevAt w db 200 (devL L W c) F ∧ (∀ k, F k → w0.heap.size ≤ k) := by
  obtain ⟨F, h1, h2, _⟩ := h.rg.dev
  exact ⟨F, h1, h2⟩
theorem StK.flush {w0 w : World} {b db : Nat} {pre : List (List It)} {l : List It} {L : List (List Nat)} {W : List (Nat × List Nat)} {c : Nat} (h : StK w0 w b db pre l L W c) (hc : c ≤ 1000000) {P : World → Prop} (hP : Carr P w) :
    Calls Try.prog 8 #[.pointer (some ⟨db, 0, none⟩)] w fun e w' => e = .returned (.int .i64 0) ∧ Carr P w' ∧ ∃ L', StK w0 w' b db pre l L' [] (c + 1) ∧ ∀ p y, layAt 9 (pre ++ [l]) p = some y → L'[p]? = some y := by
  obtain ⟨F, hd, hst⟩ := h.rg.devStep
  have hl := devL_flush h.dk.l64 h.dk.hW c
  have hf := h.dk.flush
  refine (D.flush_at w db 200 _ F hd (by show c < _; omega)).mono ?_
  rintro e w' ⟨rfl, hs⟩
  have h1 := hst _ _ hs
  rw [hl.2] at h1
  exact ⟨by rw [hl.1], hP.kept hs.1 (fun k L t hf hb => dev_ty hd hf hb), _, ⟨h1, hf.1, h.so, h.pl⟩, hf.2⟩
theorem layAt_grows {sz : Nat} {pf pre : List (List It)} {lf l : List It} (h : Grows pf lf pre l) {p : Nat} {y : List Nat} (hy : layAt sz (pf ++ [lf]) p = some y) : layAt sz (pre ++ [l]) p = some y := by
  obtain ⟨h1, t, h2⟩ := h.at
  unfold layAt at hy ⊢
  rcases Nat.lt_trichotomy (p / sz) pf.length with h3 | h3 | h3
  · have e : (pre ++ [l])[p / sz]? = pf[p / sz]? := by rw [← h1, List.getElem?_take_of_lt h3]
    rw [List.getElem?_append_left h3] at hy
    rw [e]
    exact hy
  · rw [h3] at hy ⊢
    rw [List.getElem?_append_right (Nat.le_refl _), Nat.sub_self] at hy
    rw [h2]
    simp only [List.getElem?_cons_zero] at hy ⊢
    rw [itsS_append, List.getElem?_append_left (by
      rcases Nat.lt_or_ge (p % sz) (itsS ((sz * pf.length : Nat) : Int) lf).length with h4 | h4
      · exact h4
      · rw [List.getElem?_eq_none h4] at hy; cases hy)]
    exact hy
  · rw [List.getElem?_eq_none (by simp; omega)] at hy
    cases hy
/-- Behind a crash. -/
theorem StK.crash {w0 w : World} {b db : Nat} {pre : List (List It)} {l : List It} {L : List (List Nat)} {W : List (Nat × List Nat)} {c : Nat} (h : StK w0 w b db pre l L W c) (kv : Value) (ks : List Bool) (hkp : ∀ w' F, Kept (fun _ => False) w0 w' → (∀ k, F k → w0.heap.size ≤ k) → D.keepIs w' kv ks F) {P : World → Prop} (hP : Carr P w)
    {pf : List (List It)} {lf : List It} (hg : Grows pf lf pre l) (hsure : ∀ p y, layAt 9 (pf ++ [lf]) p = some y → L[p]? = some y) :
    Calls Try.prog 10 #[.pointer (some ⟨db, 0, none⟩), kv] w fun e w' => e = .returned (.tuple #[]) ∧ Carr P w' ∧ ∃ L' en, Rg w0 w' b 200 ⟨db, 0, 6, 9, en⟩ (devL L' [] c) [] ∧ L'.length = 200 ∧ (∀ x ∈ L', x.length = 64) ∧ (∀ (p : Nat) (y : List Nat), L'[p]? = some y → y = z64 ∨ layAt 9 (pre ++ [l]) p = some y) ∧ (∀ (p : Nat) (y : List Nat), layAt 9 (pf ++ [lf]) p = some y → L'[p]? = some y) := by
  obtain ⟨F, hd, hF, _⟩ := h.rg.dev
  obtain ⟨F2, hd2, hst⟩ := h.rg.devStep
  have hFF : ∀ k, F2 k → w0.heap.size ≤ k := by
    obtain ⟨b1, v1, i1, j1⟩ := hd
    obtain ⟨b2, v2, i2, j2⟩ := hd2
    have e := (i1.hb.same i2.hb).1
    simp only [List.cons.injEq, Value.slice.injEq, Option.some.injEq, Addr.mk.injEq, and_true, true_and] at e
    obtain ⟨rfl, rfl⟩ := e
    exact fun k hk => hF k ((j1 k).2 ((j2 k).1 hk))
  refine (D.crash_at w db 200 _ F2 hd2 kv ks (hkp w F2 h.rg.kept hFF)).mono ?_
  rintro e w' ⟨rfl, hs⟩
  have h1 := hst _ _ hs
  rw [devL_crash h.dk.l64 h.dk.hW] at h1
  obtain ⟨a1, a2, a3, a4⟩ := h.dk.laid (fun i => ks.getD i false)
  refine ⟨rfl, hP.kept hs.1 (fun k L t hf hb => dev_ty hd2 hf hb), _, _, h1, a1, a2, a3, fun p y hy => a4 p y (layAt_grows hg hy) (.inl (hsure p y hy))⟩
/-- What is found. -/
theorem rgCommits {w0 w : World} {b db en : Nat} {L : List (List Nat)} {c : Nat} (h : Rg w0 w b 200 ⟨db, 0, 6, 9, en⟩ (devL L [] c) []) (hL : L.length = 200) (h64 : ∀ x ∈ L, x.length = 64) (hb : ∀ x ∈ L, ∀ y ∈ x, y < 256) (ep : Int) (hep : 0 ≤ ep ∧ ep ≤ 4294967295) {T : List En × Int} (hT : opRun 9 ep (segB 0 6 9 L) 6 0 0 = T) (hTl : T.1.length ≤ 100000) {P : World → Prop} (hP : Carr P w) :
    Calls Try.prog 11 #[.pointer (some ⟨b, 0, none⟩), .int .i64 ep] w fun e w' => ∃ v R, e = .returned (.tuple #[v, .int .i64 0]) ∧ Carr P w' ∧ RvOwn w' v R ∧ R.map Rv.rc = comE T.1 ∧ (∀ k, rvsX v R k → w.heap.size ≤ k) ∧ ∃ en' : Nat, T.2 = en' ∧ Rg w0 w' b 200 ⟨db, 0, 6, 9, en'⟩ (devL L [] c) [] := by
  obtain ⟨F, hd, hFb, _, _⟩ := h.open
  refine (commits_at w b 200 ⟨db, 0, 6, 9, en⟩ (devL L [] c) F h.log hd hFb (by dsimp only; decide) (by dsimp only; decide) (by dsimp only; decide) rfl L h64 hL hb (devL_view L c) ep hep T hT hTl).mono ?_
  rintro e w' ⟨v, R, rfl, h1, h2, h3, en', h4, _, h5, h6⟩
  refine ⟨v, R, rfl, hP.kept h6 (fun k L t hk hb ht => ?_), h1, h2, h3, en', h4, h.set h6 h5 rfl⟩
  subst hk
  exact log_nb h.log hb ht rfl
end Go.Proofs.Ytbbhchmdggfncaa


/-
  The later epoch: the law's second Add, and what is found behind it.
-/
namespace Go.Proofs.Ytbbhchmdggfncaa
open Go.RowKit Go.Shelf
set_option linter.unusedSimpArgs false
set_option linter.unusedVariables false
set_option maxRecDepth 100000

theorem tellAll_length (sz k : Nat) (segs : List (List It)) : (tellAll sz k segs).length = segs.flatten.length := by
  have h := congrArg List.length (tellAll_rc sz k segs)
  rw [List.length_map] at h
  rw [h]
  unfold recs
  rw [List.length_map]
theorem flat_le : ∀ (segs : List (List It)) (m : Nat), (∀ (i : Nat) (l : List It), segs[i]? = some l → l.length ≤ m) → segs.flatten.length ≤ segs.length * m
  | [], m, _ => by simp
  | l :: segs, m, h => by
    have h1 := h 0 l rfl
    have h2 := flat_le segs m (fun i l' hl => h (i + 1) l' (by simpa using hl))
    rw [List.flatten_cons, List.length_append, List.length_cons, Nat.add_mul]
    omega
theorem SegsOk.seg_len {e : Int} {pre : List (List It)} {l : List It} (h : SegsOk 9 e pre l) : ∀ (i : Nat) (l' : List It), (pre ++ [l])[i]? = some l' → l'.length ≤ 9 := by
  intro i l' hi
  rcases Nat.lt_or_ge i pre.length with h1 | h1
  · rw [List.getElem?_append_left h1] at hi
    have h2 := h.prev i l' hi
    have h3 := segFits_len l' 0 (Nat.zero_le _) h2.2.2.1
    have := len_itsN l'
    omega
  · rw [List.getElem?_append_right h1] at hi
    cases h2 : i - pre.length with
    | zero =>
      rw [h2] at hi
      simp at hi
      subst hi
      have := len_itsN l
      have := h.lt
      omega
    | succ j => rw [h2] at hi; simp at hi
theorem SegsOk.flat {e : Int} {pre : List (List It)} {l : List It} (h : SegsOk 9 e pre l) (hp : pre.length < 6) : (pre ++ [l]).flatten.length ≤ 54 := by
  have := flat_le (pre ++ [l]) 9 h.seg_len
  rw [List.length_append, List.length_singleton] at this
  omega
/-- What was found behind the crash. -/
structure Fnd (pre0 : List (List It)) (l0 : List It) (L : List (List Nat)) (C1 : List (List It)) (C2 : List It) : Prop where
  so : SegsOk 9 1 pre0 l0
  pl : pre0.length < 6
  len : L.length = 200
  l64 : ∀ x ∈ L, x.length = 64
  hor : ∀ (p : Nat) (y : List Nat), L[p]? = some y → y = z64 ∨ layAt 9 (pre0 ++ [l0]) p = some y
  c1 : ∀ (i : Nat) (l' : List It), C1[i]? = some l' → l' ≠ [] ∧ itsOk ((9 * i : Nat) : Int) l' ∧ segFits 9 1 0 l' ∧ endsIn l' = true
  cl : C1.length < 6
  c2 : C2 = [] ∨ SegsOk 9 1 C1 C2
  lay : ∀ (p : Nat) (y : List Nat), layAt 9 (C1 ++ [C2]) p = some y → L[p]? = some y
  two : ∃ T : List En × Int, opRun 9 2 (segB 0 6 9 L) 6 0 0 = T ∧ T.1.length ≤ 100000 ∧ comE T.1 = comR (C1 ++ [C2])
theorem Fnd.lt {pre0 : List (List It)} {l0 : List It} {L : List (List Nat)} {C1 : List (List It)} {C2 : List It} (h : Fnd pre0 l0 L C1 C2) : ∀ x ∈ L, ∀ b ∈ x, b < 256 := or_lt h.so.all h.hor
/-- What writes over them leave. -/
theorem laid_lt {L : List (List Nat)} (hL : ∀ x ∈ L, ∀ b ∈ x, b < 256) {W : List (Nat × List Nat)} (hW : ∀ q ∈ W, ∀ b ∈ q.2, b < 256) : ∀ x ∈ laidL (fun _ => true) W L W.length, ∀ b ∈ x, b < 256 := by
  intro x hx
  obtain ⟨p, hp⟩ := List.mem_iff_getElem?.1 hx
  rcases laidL_some W.length hp with h | ⟨i, hi, h, _⟩
  · exact hL x (List.mem_of_getElem? h)
  · exact hW (p, x) (List.mem_of_getElem? h)
theorem putW_ok {a : Nat} {x : It} (h : ItOk (a : Int) x) (ha : a + itN x ≤ 200) : ∀ q ∈ putW a (itS (a : Int) x), q.1 < 200 ∧ q.2.length = 64 ∧ ∀ b ∈ q.2, b < 256 := by
  intro q hq
  obtain ⟨i, hi, rfl⟩ := List.mem_map.1 hq
  have hi := List.mem_range.1 hi
  have hi2 := hi
  rw [itS_length] at hi2
  have hm : (itS (a : Int) x).getD i [] ∈ itS (a : Int) x := by
    rw [List.getD_eq_getElem?_getD, List.getElem?_eq_getElem hi]
    exact List.getElem_mem hi
  exact ⟨by show a + i < 200; omega, itS_64 _ _ _ hm, itS_lt h _ hm⟩
/-- What the second Add leaves. -/
def Out (w0 w' : World) (b db : Nat) (L : List (List Nat)) (c : Nat) (F : List Rc) (r : Rc) (ec : Int) : Prop :=
  ∃ W2 c2 en2, Rg w0 w' b 200 ⟨db, 0, 6, 9, en2⟩ (devL L W2 c2) [] ∧ (∀ q ∈ W2, q.1 < 200 ∧ q.2.length = 64) ∧ (∀ q ∈ W2, ∀ b ∈ q.2, b < 256) ∧ c2 ≤ c + 5 ∧
    ∃ T : List En × Int, opRun 9 2 (segB 0 6 9 (laidL (fun _ => true) W2 L W2.length)) 6 0 0 = T ∧ T.1.length ≤ 100000 ∧ ((ec = 0 ∧ comE T.1 = F ++ [r]) ∨ (ec = 30 ∧ comE T.1 = F))
def rvK0 (k : Nat) : Rv := ⟨3, 1, k, ⟨none, 0, 0⟩, []⟩
theorem rvK0_rc (k : Nat) : (rvK0 k).rc = rcK k 0 0 := rfl
theorem rvK0_at (w : World) (k : Nat) : RcAt w (rvK0 k) := WsAt.nil w
theorem rvK0_right {k : Nat} (hk : 1 ≤ k ∧ k ≤ 1000) : rightR (rvK0 k).rc = true := rcK_right (k := k) (v := 0) (j := 0) hk (by decide)
theorem rvK0_kind (k : Nat) : (rvK0 k).rc.kind = 3 := rfl
theorem rvK0_lt (k : Nat) : ∀ y ∈ putR (rvK0 k).rc, y < 256 := rcK_lt (k := k) (v := 0) (j := 0) (by decide)
theorem rvK0_len (k : Nat) : (putR (rvK0 k).rc).length ≤ 10000 := by
  have h := rcK_len k 0 0
  have e : (putR (rvK0 k).rc).length = 15 + 66 * 0 := h
  omega
theorem rvK0_sect (k : Nat) : sectN (putR (rvK0 k).rc).length = 1 := by
  have h := rcK_len k 0 0
  have e : (putR (rvK0 k).rc).length = 15 + 66 * 0 := h
  rw [e]
  rfl
theorem rc0_n (k : Nat) : itN ((2 : Int), rcK k 0 0) = 1 := by
  unfold itN
  rw [show ((2 : Int), rcK k 0 0).2 = rcK k 0 0 from rfl, rcK_len]
  rfl
theorem hd2_n (nm : Int) : itN (hdI 2 1 nm) = 1 := by
  unfold itN
  rw [show (hdI 2 1 nm).2 = ⟨1, 1, nm, []⟩ from rfl, hd_len]
  rfl
theorem rc0_ok {k : Nat} (hk : 1 ≤ k ∧ k ≤ 1000) {p : Int} (hp : 0 ≤ p ∧ p ≤ 100000) : ItOk p ((2 : Int), rcK k 0 0) :=
  itOk_of (rcK_right hk (by decide)) (rcK_lt (by decide)) ⟨by show (0 : Int) ≤ 2; decide, by show (2 : Int) ≤ 4294967295; decide⟩ (by show (putR (rcK k 0 0)).length ≤ 10000; rw [rcK_len]; decide) hp
/-- Where no segment is open: the head first. -/
theorem fnd_start {w0 w : World} {b db c : Nat} {pre0 : List (List It)} {l0 : List It} {L : List (List Nat)} {C1 : List (List It)} (h : Fnd pre0 l0 L C1 []) (hg : Rg w0 w b 200 ⟨db, 0, 6, 9, 9 * C1.length + itsN []⟩ (devL L [] c) []) (hc : c ≤ 1000) {k : Nat} (hk : 1 ≤ k ∧ k ≤ 1000) {P : World → Prop} (hP : Carr P w) :
    Calls Try.prog 7 #[.pointer (some ⟨b, 0, none⟩), .int .i64 (C1.length : Nat), .int .i64 2, .int .i64 1, .int .i64 (k : Nat)] w fun e w' => e = .returned (.int .i64 0) ∧ P w' ∧ Rg w0 w' b 200 ⟨db, 0, 6, 9, 9 * C1.length + itsN [hdI 2 1 k]⟩ (devL L (putW (9 * C1.length) (itS ((9 * C1.length : Nat) : Int) (hdI 2 1 k))) (c + 1)) [] := by
  obtain ⟨G, h1, h2⟩ := hg.carr hP
  refine (rg2_start (a := C1.length) (e0 := 2) h1 (by decide) (by decide) (by decide) h.cl (by decide) 1 k (hd_rightK (by omega)) (by omega) (by decide)).mono ?_
  rintro e w' ⟨rfl, h3⟩
  exact ⟨rfl, h2 w' h3.has, h3.nil⟩
set_option maxHeartbeats 600000 in
theorem fnd_addA {w0 w : World} {b db c : Nat} {pre0 : List (List It)} {l0 : List It} {L : List (List Nat)} {C1 : List (List It)} (h : Fnd pre0 l0 L C1 []) {k : Nat} (hk : 1 ≤ k ∧ k ≤ 1000) (hc : c ≤ 1000)
    (hg : Rg w0 w b 200 ⟨db, 0, 6, 9, 9 * C1.length + itsN [hdI 2 1 k]⟩ (devL L (putW (9 * C1.length) (itS ((9 * C1.length : Nat) : Int) (hdI 2 1 k))) (c + 1)) []) {P : World → Prop} (hP : Carr P w) :
    Calls Try.prog 9 #[.pointer (some ⟨b, 0, none⟩), (rvK0 k).agg, .int .i64 2, .int .i64 0] w fun e w' => ∃ p ec : Int, e = .returned (.tuple #[.int .i64 p, .int .i64 ec]) ∧ P w' ∧ Out w0 w' b db L c (comR (C1 ++ [[]])) (rcK k 0 0) ec := by
  obtain ⟨G, h1, h2⟩ := hg.carr hP
  have hn1 : itsN [hdI 2 1 k] = 1 := by simp [itsN, hd2_n]
  have hcl := h.cl
  have hwl : (putW (9 * C1.length) (itS ((9 * C1.length : Nat) : Int) (hdI 2 1 k))).length = 1 := by simp [putW, itS_length, hd2_n]
  refine (rg2_in (e0 := 2) h1 (by rw [hn1]; decide) (by rw [hn1]; decide) (by decide) (by decide) (by decide) h.cl (by decide) (rvK0 k) (fun w' _ => rvK0_at w' k) (rvK0_right hk) (rvK0_kind k) (rvK0_lt k) (rvK0_len k) 1 (rvK0_sect k) (by decide) 0 (by rw [hn1]; decide) (by omega) (by omega)).mono ?_
  rintro e w' ⟨rfl, h3⟩
  rw [hn1] at h3
  have hh : ItOk ((9 * C1.length : Nat) : Int) (hdI 2 1 k) := hd_itOk 2 1 k _ (hd_rightK (by omega)) (by decide) (by omega)
  have hx : ItOk ((9 * C1.length + 1 : Nat) : Int) ((2 : Int), rcK k 0 0) := rc0_ok hk (by omega)
  obtain ⟨en, a1, a2⟩ := again_head (sz := 9) (n := 200) (sg := 6) (pre := C1) (x := ((2 : Int), rcK k 0 0)) (nm := (k : Int)) (by decide) (by decide) h.so h.len h.l64 h.hor h.c1 (fun p y hy => h.lay p y (by rw [layAt_nil]; exact hy)) (by omega) hh rfl rfl (by simpa using hx) (by rw [rc0_n]; decide) (hd2_n _) rfl
  have p1 := putW_ok hh (by rw [hd2_n]; omega)
  have p2 := putW_ok hx (by rw [rc0_n]; omega)
  refine ⟨_, 0, rfl, h2 w' h3.has, _, _, _, h3.nil, ?_, ?_, by omega, _, a1, ?_, .inl ⟨rfl, by rw [a2, comR_nil]⟩⟩
  · intro q hq
    rcases List.mem_append.1 hq with hq | hq
    · exact ⟨(p1 q hq).1, (p1 q hq).2.1⟩
    · exact ⟨(p2 q hq).1, (p2 q hq).2.1⟩
  · intro q hq
    rcases List.mem_append.1 hq with hq | hq
    · exact (p1 q hq).2.2
    · exact (p2 q hq).2.2
  · show (tellAll 9 0 (C1 ++ [[hdI 2 1 k, ((2 : Int), rcK k 0 0)]])).length ≤ 100000
    rw [tellAll_length]
    have := flat_le C1 9 (fun i l' hl => by
      have h2 := h.c1 i l' hl
      have h3 := segFits_len l' 0 (Nat.zero_le _) h2.2.2.1
      have := len_itsN l'
      omega)
    simp only [List.flatten_append, List.length_append, List.flatten_cons, List.flatten_nil, List.length_cons, List.length_nil]
    omega
set_option maxHeartbeats 600000 in
theorem fnd_addB {w0 w : World} {b db c : Nat} {pre0 : List (List It)} {l0 : List It} {L : List (List Nat)} {C1 : List (List It)} {C2 : List It} (h : Fnd pre0 l0 L C1 C2) (hs : SegsOk 9 1 C1 C2) {k : Nat} (hk : 1 ≤ k ∧ k ≤ 1000) (hc : c ≤ 1000)
    (hg : Rg w0 w b 200 ⟨db, 0, 6, 9, 9 * C1.length + itsN C2⟩ (devL L [] c) []) {P : World → Prop} (hP : Carr P w) :
    Calls Try.prog 9 #[.pointer (some ⟨b, 0, none⟩), (rvK0 k).agg, .int .i64 2, .int .i64 0] w fun e w' => ∃ p ec : Int, e = .returned (.tuple #[.int .i64 p, .int .i64 ec]) ∧ P w' ∧ Out w0 w' b db L c (comR (C1 ++ [C2])) (rcK k 0 0) ec := by
  obtain ⟨G, h1, h2⟩ := hg.carr hP
  have hcl := h.cl
  have hlt := hs.lt
  have hfl := hs.flat hcl
  by_cases hfit : itsN C2 + 1 < 9
  · refine (rg2_in (e0 := 2) h1 hs.pos hs.lt (by decide) (by decide) (by decide) h.cl (by decide) (rvK0 k) (fun w' _ => rvK0_at w' k) (rvK0_right hk) (rvK0_kind k) (rvK0_lt k) (rvK0_len k) 1 (rvK0_sect k) (by decide) 0 hfit (by omega) (by decide)).mono ?_
    rintro e w' ⟨rfl, h3⟩
    have hx : ItOk ((9 * C1.length + itsN C2 : Nat) : Int) ((2 : Int), rcK k 0 0) := rc0_ok hk (by omega)
    obtain ⟨en, a1, a2⟩ := again_in (sz := 9) (n := 200) (sg := 6) (x := ((2 : Int), rcK k 0 0)) (by decide) (by decide) h.so h.len h.l64 h.hor hs h.lay (by omega) rfl rfl (by simpa using hx) (by rw [rc0_n]; omega) rfl
    have p2 := putW_ok hx (by rw [rc0_n]; omega)
    refine ⟨_, 0, rfl, h2 w' h3.has, _, _, _, h3.nil, ?_, ?_, by omega, _, a1, ?_, .inl ⟨rfl, a2⟩⟩
    · intro q hq
      rw [List.nil_append] at hq
      exact ⟨(p2 q hq).1, (p2 q hq).2.1⟩
    · intro q hq
      rw [List.nil_append] at hq
      exact (p2 q hq).2.2
    · show (tellAll 9 0 (C1 ++ [C2 ++ [((2 : Int), rcK k 0 0)]])).length ≤ 100000
      rw [tellAll_length]
      simp only [List.flatten_append, List.length_append, List.flatten_cons, List.flatten_nil, List.length_cons, List.length_nil] at hfl ⊢
      omega
  · by_cases hlow : (C1.length : Int) + 1 - 6 < 0
    · refine (rg2_turn (e0 := 2) h1 hs.pos hs.lt (by decide) (by decide) (by decide) (by omega) (by decide) (rvK0 k) (fun w' _ => rvK0_at w' k) (rvK0_right hk) (rvK0_kind k) (rvK0_lt k) (rvK0_len k) 1 (rvK0_sect k) (by decide) 0 hfit (by simpa using hlow) (by omega) (by decide)).mono ?_
      rintro e w' ⟨rfl, h3⟩
      have hsw : ItOk ((9 * C1.length + itsN C2 : Nat) : Int) (swI 2) := itOk_of rfl (by intro y hy; have h2 : y ∈ ([2] : List Nat) := hy; simp at h2; omega) (by decide) (by show ([2] : List Nat).length ≤ 10000; decide) (by omega)
      have hh : ItOk ((9 * (C1.length + 1) : Nat) : Int) (hdI 2 1 k) := hd_itOk 2 1 k _ (hd_rightK (by omega)) (by decide) (by omega)
      have hx : ItOk ((9 * (C1.length + 1) + 1 : Nat) : Int) ((2 : Int), rcK k 0 0) := rc0_ok hk (by omega)
      obtain ⟨en, a1, a2⟩ := again_turn (sz := 9) (n := 200) (sg := 6) (nm := (k : Int)) (x := ((2 : Int), rcK k 0 0)) (by decide) (by decide) h.so h.len h.l64 h.hor hs h.lay (by omega) (by simpa using hsw) hh rfl rfl (by simpa using hx) (by rw [rc0_n]; decide) (hd2_n _) rfl
      have hsn : itN (swI 2) = 1 := by rfl
      have p0 := putW_ok hsw (by rw [hsn]; omega)
      have p1 := putW_ok hh (by rw [hd2_n]; omega)
      have p2 := putW_ok hx (by rw [rc0_n]; omega)
      refine ⟨_, 0, rfl, h2 w' h3.has, _, _, _, h3.nil, ?_, ?_, by omega, _, a1, ?_, .inl ⟨rfl, a2⟩⟩
      · intro q hq
        rw [List.nil_append] at hq
        rcases List.mem_append.1 hq with hq | hq
        · rcases List.mem_append.1 hq with hq | hq
          · exact ⟨(p0 q hq).1, (p0 q hq).2.1⟩
          · exact ⟨(p1 q hq).1, (p1 q hq).2.1⟩
        · exact ⟨(p2 q hq).1, (p2 q hq).2.1⟩
      · intro q hq
        rw [List.nil_append] at hq
        rcases List.mem_append.1 hq with hq | hq
        · rcases List.mem_append.1 hq with hq | hq
          · exact (p0 q hq).2.2
          · exact (p1 q hq).2.2
        · exact (p2 q hq).2.2
      · show (tellAll 9 0 (C1 ++ [C2 ++ [swI 2]] ++ [[hdI 2 1 k, ((2 : Int), rcK k 0 0)]])).length ≤ 100000
        rw [tellAll_length]
        simp only [List.flatten_append, List.length_append, List.flatten_cons, List.flatten_nil, List.length_cons, List.length_nil] at hfl ⊢
        omega
    · refine (rg2_no h1 hs.pos hs.lt (by decide) (by decide) (by decide) h.cl (rvK0 k) (fun w' _ => rvK0_at w' k) (rvK0_right hk) (rvK0_kind k) (rvK0_len k) 1 (rvK0_sect k) (by decide) 2 0 hfit (by simpa using hlow)).mono ?_
      rintro e w' ⟨rfl, h3⟩
      obtain ⟨T, t1, t2, t3⟩ := h.two
      exact ⟨_, 30, rfl, h2 w' h3.has, [], c, _, h3.nil, by simp, by simp, by omega, T, t1, t2, .inr ⟨rfl, t3⟩⟩
end Go.Proofs.Ytbbhchmdggfncaa
