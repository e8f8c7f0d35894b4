/-
  dev.split: an iterator over the sectors of some bytes.
-/
import Derived.Test.YtnlcmgdeohbmoaaJ22
import Derived.Test.YtnlcmgdeohbmoaaJ06
import Derived.Test.YtnlcmgdeohbmoaaJ01
namespace Go.Proofs.Ytnlcmgdeohbmoaa.D
open Go.RowKit Go.Shelf
set_option linter.unusedSimpArgs false
set_option linter.unusedVariables false
set_option maxRecDepth 100000

attribute [local go_sem] Oper.semAt_some

/-- A sector of some bytes. -/
def sec (B : List Value) (k : Nat) : List Value := (B.drop (64 * k)).take 64
def encS (B : List Value) (m : Nat) (x : Fin m) : Array Value := #[.int .i64 (x.1 : Int), .agg (sec B x.1).toArray]

theorem sec_length (B : List Value) (m k : Nat) (hB : B.length = 64 * m) (hk : k < m) : (sec B k).length = 64 := by simp [sec]; omega
theorem sec_byte (B : List Value) (k : Nat) (hB : ∀ v ∈ B, isByte v) : ∀ v ∈ sec B k, isByte v := fun v hv => hB v (List.mem_of_mem_drop (List.mem_of_mem_take hv))

/-- Below n₀ all but the blocks of X are as they were. -/
def KpX (n₀ : Nat) (X : Nat → Prop) (W W' : World) : Prop := W.heap.size ≤ W'.heap.size ∧ ∀ k, k < n₀ → ¬ X k → W'.heap[k]? = W.heap[k]?
theorem KpX.refl (n₀ : Nat) (X : Nat → Prop) (W : World) : KpX n₀ X W W := ⟨Nat.le_refl _, fun _ _ _ => rfl⟩
theorem KpX.trans {n₀ : Nat} {X : Nat → Prop} {A B C : World} (h : KpX n₀ X A B) (k : KpX n₀ X B C) : KpX n₀ X A C := ⟨Nat.le_trans h.1 k.1, fun i hi hx => (k.2 i hi hx).trans (h.2 i hi hx)⟩
theorem KpX.of_kept {n₀ : Nat} {X S : Nat → Prop} {A B : World} (h : Kept S A B) (hn : n₀ ≤ A.heap.size) (hS : ∀ k, k < n₀ → S k → X k) : KpX n₀ X A B := ⟨h.size, fun k hk hx => h.block k (by omega) (fun hs => hx (hS k hk hs))⟩
theorem KpX.blk {n₀ : Nat} {X : Nat → Prop} {A B : World} (h : KpX n₀ X A B) {b : Nat} {L : List Value} {t : TypeId} (hb : Blk A b L t) (hn : b < n₀) (hx : ¬ X b) : Blk B b L t := (h.2 b hn hx).trans hb
theorem KpX.cells {n₀ : Nat} {X : Nat → Prop} {A B : World} (h : KpX n₀ X A B) {b so : Nat} {M : List Value} (hb : Cells A b so M) (hn : b < n₀) (hx : ¬ X b) : Cells B b so M :=
  fun j v hj => (World.cell?_of_block (h.2 b hn hx)).trans (hb j v hj)

theorem _root_.Go.Proofs.Ytnlcmgdeohbmoaa.Kept.grown {w w' : World} (h : Kept (fun _ => False) w w') : w.grownBy w' none := ⟨h.os, h.tape, h.output, h.size, fun k hk _ => h.block k hk (fun h => h)⟩

theorem finRange_take_succ (m k : Nat) (h : k < m) : (List.finRange m).take (k + 1) = (List.finRange m).take k ++ [⟨k, h⟩] := by
  rw [List.take_succ_eq_append_getElem (by simpa using h)]
  simp

set_option maxRecDepth 100000 in
set_option maxHeartbeats 2000000 in
theorem split1_in (n : Nat) (l Bs n₀ m cap : Nat) (ao : Option Addr) (B : List Value) (X : Nat → Prop) (hB : B.length = 64 * m) (hBb : ∀ v ∈ B, isByte v) (hm : m ≤ 4096) (hcap : 64 * m ≤ cap) (hBs : Bs < n₀) (hXs : ¬ X Bs)
    (J Jx : List (Fin m) → World → Prop) (W : World) (hn₀ : n₀ ≤ W.heap.size) (hJ : AbidesFrom W.heap.size J)
    (hY : ∀ pre x W, J pre W → pre.length < m → YieldAt Fence.wide (n - 1) Try.prog l (encS B m x) W fun e W' =>
      (e = .returned (.bool true) ∧ J (pre ++ [x]) W' ∧ KpX n₀ X W W') ∨ (e = .returned (.bool false) ∧ Jx (pre ++ [x]) W'))
    (hbox : Blk W Bs [.slice ao (64 * m) cap] 41) (hsrc : 0 < m → ∃ sb so, ao = some ⟨sb, so, none⟩ ∧ Cells W sb so B ∧ sb < n₀ ∧ ¬ X sb) (h0 : J [] W) :
    CallsIn Fence.wide n Try.prog 74 #[.func (.yield l) #[] #[], .pointer (some ⟨Bs, 0, none⟩)] W fun e W' => (∃ v, e = .returned v) ∧
      ((∃ ys, ys = List.finRange m ∧ J ys W') ∨ (∃ pre, True ∧ Jx pre W')) := by
  obtain ⟨i5, hi5, hz5, hs5, hb5⟩ := info_parts Try.info5
  have Hi5 := hide hi5
  have Hs5 := hide hs5
  obtain ⟨i70, hi70, hz70, hs70, hb70⟩ := info_parts Try.info129
  have Hi70 := hide hi70
  have Hz70 := hide hz70
  have HBl := hide hB
  have HBb := hide hBb
  have HJ := hide hJ
  have HY := hide hY
  have HSrc := hide hsrc
  have H0 := hide h0
  have c : W.cell? ⟨Bs, 0, none⟩ = some (.slice ao (64 * m) cap) := hbox.cell 0
  clear hi5 hz5 hs5 hb5 hi70 hz70 hs70 hb70 hB hBb hJ hY hsrc h0
  have hq : ((64 * m : Nat) : Int) / 64 = (m : Int) := by omega
  refine callsIn_of_wp Try.func74 rfl trivial ?_ rfl
  simp only [Try.ntmps74, List.size_toArray, List.length_cons, List.length_nil, Nat.reduceAdd, Nat.reduceSub, Array.replicate_succ, Array.replicate_zero, List.push_toArray, List.append_toArray, List.nil_append, List.cons_append]
  gi_wp2
  gi_loopw [8] (fun i wr => ∃ k : Nat, k ≤ m ∧ i = .int .i64 k ∧ J ((List.finRange m).take k) wr ∧ KpX n₀ X W wr)
    (fun i _ => m - (intOf i).toNat)
  case atStart => exact ⟨0, Nat.zero_le _, rfl, H0.out, KpX.refl _ _ _⟩
  case round =>
    obtain ⟨k, hk, rfl, hJs, hkp⟩ := hrel
    have HJs := hide hJs
    clear hJs c
    by_cases hlt : k < m
    · obtain ⟨sb, so, rfl, hsrc, hsn, hsx⟩ := HSrc.out (by omega)
      have hboxr := hkp.blk hbox hBs hXs
      have hsrcr := hkp.cells hsrc hsn hsx
      have c : wr.cell? ⟨Bs, 0, none⟩ = some (.slice (some ⟨sb, so, none⟩) (64 * m) cap) := hboxr.cell 0
      gi_wp2_with ((with_reducible refine ai_alloc Hi70.out Hz70.out ?_); intro w2 hw2 hk2 hz2; have Hz2 := hide hz2; clear hz2)
      refine wpIn_wide.2 (region_tail 5 Try.mixed (by kernel_rfl) ?_)
      intro w3 hk3 hz3
      have Hz3 := hide hz3
      clear hz3 c
      have c : w3.cell? ⟨Bs, 0, none⟩ = some (.slice (some ⟨sb, so, none⟩) (64 * m) cap) := (hk3.blk (hk2.blk hboxr (fun h => h)) (fun h => h)).cell 0
      have hsrc3 := (hk3.cells (hk2.cells hsrcr (fun h => h)) (fun h => h)).part (64 * k) 64
      simp only [List.take_succ_cons, List.take_zero, List.drop_succ_cons, List.drop_zero]
      have hw : IntKind.i64.wrap (↑k * 64) = ((64 * k : Nat) : Int) := by rw [IntKind.wrap_i64]; omega
      still_step
      still_step
      still_step
      still_step
      clear hw
      refine st_slice_lo (k := .i64) Try.underlying41 Hi5.out 1 Hs5.out rfl (64 * k) (by simp [Act.eval]) (by omega) (by omega) ?_
      refine wpStill_nil ?_
      rw [Nat.mul_one]
      refine aw_copyC Try.underlying41 Hi5.out 1 Hs5.out rfl rfl 64 (by omega) (hk3.blk hw2 (fun h => h)) hsrc3 (sec_length B m k HBl.out hlt) (by simp [Value.cells]) (fun v hv => (sec_byte B k HBb.out v hv).one) ?_
      intro w4 hw4 hk4 _
      have hs64 := sec_length B m k HBl.out hlt
      rw [put_whole _ _ (by rw [show (List.take 64 (List.drop (64 * k) B)).length = 64 from hs64]; simp [Value.cells])] at hw4
      have hk44 : Kept (fun _ => False) wr w4 := ((hk2.trans hk3 (fun _ _ h => h)).trans hk4 (fun i hi h => by omega))
      have hJ4 := HJ.out _ wr w4 none HJs.out hk44.grown (fun r e => by cases e)
      obtain ⟨fn, tmps, assign, body, hy, hR⟩ := HY.out _ ⟨k, hlt⟩ w4 hJ4 (by simp; omega)
      have HR := hide hR
      have hy' : (Instr.yield l #[.int .i64 (k : Int), .agg (sec B k).toArray]).run Try.prog w4 = .ok (.round l fn tmps assign body) w4 := hy
      clear hy hR
      have hw4' : Blk w4 wr.heap.size (sec B k) 129 := hw4
      have HM : Hid (((sec B k).drop 0).take 64 = sec B k) := hide (by rw [List.drop_zero]; exact List.take_of_length_le (Nat.le_of_eq hs64))
      have HL : Hid (0 + 64 ≤ (sec B k).length) := hide (by rw [hs64]; decide)
      obtain ⟨M, hMe⟩ : ∃ M, M = sec B k := ⟨_, rfl⟩
      rw [← hMe] at hw4' HM HL hy'
      clear hMe hs64 hw4 c hsrc3 hsrcr hboxr hk3 hk2 hw2
      simp only [wpList]
      gi_wp2_with ((with_reducible refine ai_load Try.agg129 rfl hw4' HL.out HM.out ?_))
      refine ⟨fun e => (by cases e), HR.out.mono ?_⟩
      have hkp4 : KpX n₀ X W w4 := hkp.trans (KpX.of_kept hk44 (Nat.le_trans hn₀ hkp.1) (fun _ _ h => h.elim))
      have HJ' : Hid ((List.finRange m).take (k + 1) = (List.finRange m).take k ++ [⟨k, hlt⟩]) := hide (finRange_take_succ m k hlt)
      rintro e W5 (⟨rfl, hJ5, hk5⟩ | ⟨rfl, hJx5⟩)
      · have HJ5 := hide hJ5
        clear hJ5 hy' hw4' hk4 hk44
        gi_wp2
        go_roundw
        case rel => exact ⟨k + 1, by omega, by simp, by rw [HJ'.out]; exact HJ5.out, hkp4.trans hk5⟩
        case measure => simp [intOf]; omega
      · have HJ5 := hide hJx5
        clear hJx5 hy' hw4' hk4 hk44
        gi_wp2
        refine bodyPost_ret (results_none rfl _ _ _) rfl ?_
        exact ⟨⟨_, rfl⟩, .inr ⟨_, trivial, HJ5.out⟩⟩
    · obtain rfl : k = m := by omega
      gi_wp2
      go_end0
      refine ⟨⟨_, rfl⟩, .inl ⟨_, rfl, ?_⟩⟩
      have := HJs.out
      rwa [List.take_of_length_le (by simp)] at this

end Go.Proofs.Ytnlcmgdeohbmoaa.D

/-
  (*Dev).Write: the round of its loop: one sector more waits.
-/
namespace Go.Proofs.Ytnlcmgdeohbmoaa.D
open Go.RowKit Go.Shelf
set_option linter.unusedSimpArgs false
set_option linter.unusedVariables false
set_option maxRecDepth 100000

theorem eval_put_ne (a : Act) (d t : Nat) (v : Value) (h : d ≠ t) : (a.put (some d) v).eval (.tmp t) = a.eval (.tmp t) := by
  simp [Act.put, Act.eval, Array.getD_eq_getD_getElem?, Array.getElem?_setIfInBounds, h]
theorem eval_put_eq (a : Act) (d : Nat) (v : Value) (h : d < a.tmps.size) : (a.put (some d) v).eval (.tmp d) = v := by
  simp [Act.put, Act.eval, Array.getD_eq_getD_getElem?, Array.getElem?_setIfInBounds, h]
theorem size_put (a : Act) (d : Option Nat) (v : Value) : (a.put d v).tmps.size = a.tmps.size := by
  cases d <;> simp [Act.put]

section
variable {ρ : Operand → Value} {w : World} {dst : Option Tmp} {ty : TypeId} {pos : String} {aft : Array Edge} {gd : Option (Nat × Bool)}
theorem r_load24 {x : Operand} {p : Addr} {v : Value} (hx : ρ x = .pointer (some p)) (hc : w.cell? p = some v) : (execOp ρ ⟨dst, .load 24 x, ty, pos, aft, gd⟩).run Try.prog w = .ok (.value v) w := by
  go_simp
theorem r_load59 {x : Operand} {p : Addr} {v : Value} (hx : ρ x = .pointer (some p)) (hc : w.cell? p = some v) : (execOp ρ ⟨dst, .load 70 x, ty, pos, aft, gd⟩).run Try.prog w = .ok (.value v) w := by
  go_simp
theorem r_load3 {x : Operand} {p : Addr} {v : Value} (hx : ρ x = .pointer (some p)) (hc : w.cell? p = some v) : (execOp ρ ⟨dst, .load 3 x, ty, pos, aft, gd⟩).run Try.prog w = .ok (.value v) w := by
  go_simp
theorem r_nilCheck {x : Operand} {p : Addr} (hx : ρ x = .pointer (some p)) : (execOp ρ ⟨dst, .nilCheck x, ty, pos, aft, gd⟩).run Try.prog w = .ok (.value (.pointer (some p))) w := by
  go_simp
theorem r_field1 {x : Operand} {b : Nat} (hx : ρ x = .pointer (some ⟨b, 0, none⟩)) : (execOp ρ ⟨dst, .fieldAddr 72 x 1, ty, pos, aft, gd⟩).run Try.prog w = .ok (.value (.pointer (some ⟨b, 1, none⟩))) w := by
  go_simp
theorem r_move {x : Operand} {v : Value} (hx : ρ x = v) : (execOp ρ ⟨dst, .move x, ty, pos, aft, gd⟩).run Try.prog w = .ok (.value v) w := by
  go_simp
theorem r_add {x y : Operand} {i j : Nat} (hx : ρ x = .int .i64 i) (hy : ρ y = .int .i64 j) (h : i + j ≤ 9223372036854775807) : (execOp ρ ⟨dst, .binOp .add 3 x y 3, ty, pos, aft, gd⟩).run Try.prog w = .ok (.value (.int .i64 ((i + j : Nat) : Int))) w := by
  have hw : IntKind.i64.wrap ((i : Int) + (j : Int)) = ((i + j : Nat) : Int) := by rw [IntKind.wrap_i64]; omega
  go_simp
theorem r_store59 {x y : Operand} {p : Addr} {ao : Option Addr} {l c : Nat} {u : Value} (hx : ρ x = .pointer (some p)) (hy : ρ y = .slice ao l c) (hc : w.cell? p = some u) (hf : w.frozen? p = false) :
    (execOp ρ ⟨dst, .store 70 x y, ty, pos, aft, gd⟩).run Try.prog w = .ok .skip (w.setCell p (.slice ao l c)) := by
  go_simp
theorem r_append {x y : Operand} {u v v' : Value} {w' : World} (hx : ρ x = u) (hy : ρ y = v) (h : (Builtin.append_ #[70, 70] ty #[u, v]).run Try.prog w = .ok v' w') :
    (execOp ρ ⟨dst, .call { callee := .builtin .append, args := #[x, y], argTypes := #[70, 70] }, ty, pos, aft, gd⟩).run Try.prog w = .ok (.value v') w' := by
  simp [execOp, resolve, invoke, builtin, hx, hy, h]
end

theorem _root_.Go.Proofs.Ytnlcmgdeohbmoaa.Kept.setCell' {S : Nat → Prop} {w0 w : World} (h : Kept S w0 w) (a : Addr) (v : Value) (hg : S a.block) : Kept S w0 (w.setCell a v) :=
  h.trans (Kept.setCell (S := S) w a v hg) (fun _ _ h => h)

/-- One sector more waits: the append, and the store of the new slice. -/
theorem append_waits (W : World) (b bs n : Nat) (wv : Value) (s : DS) (hd : DevIs W b bs wv n s) (q : Nat) (M : List Value) (hM : M.length = 64) (hMb : ∀ v ∈ M, isByte v) (hq : q < n) (hlen : s.ws.length < 1000000000) (ty : TypeId) :
    ∃ ao l c W2, (Builtin.append_ #[70, 70] ty #[wv, .slice (some ⟨W.heap.size, 0, none⟩) 1 1]).run Try.prog (W.alloc (.cells (.int .i64 (q : Int) :: M).toArray 131)) = .ok (.slice ao l c) W2 ∧
      W2.cell? ⟨b, 1, none⟩ = some wv ∧ W2.frozen? ⟨b, 1, none⟩ = false ∧ Kept (foot b bs wv) W W2 ∧ W.heap.size ≤ W2.heap.size ∧
      DevIs (W2.setCell ⟨b, 1, none⟩ (.slice ao l c)) b bs (.slice ao l c) n { s with ws := s.ws ++ [(q, M)] } ∧
      Kept (foot b bs wv) W (W2.setCell ⟨b, 1, none⟩ (.slice ao l c)) ∧ (∀ k, (Value.slice ao l c).ownBlock = some k → wv.ownBlock = some k ∨ W.heap.size ≤ k) := by
  obtain ⟨i72, hi72, hz72, hs72, hb72⟩ := info_parts Try.info131
  have hk1 := Kept.alloc (fun _ => False) W (.cells (.int .i64 (q : Int) :: M).toArray 131)
  have hd1 := hd.kept hk1 (fun _ _ h => h)
  have hnew : Blk (W.alloc (.cells (.int .i64 (q : Int) :: M).toArray 131)) W.heap.size (.int .i64 (q : Int) :: M) 131 := Blk.new W _ 131
  have h1 : ∀ u ∈ (Value.int .i64 (q : Int) :: M), u.oneCell' = true := by
    intro u hu
    rcases List.mem_cons.1 hu with rfl | hu
    · rfl
    · exact (hMb u hu).one
  obtain ⟨v', W2, hrun, how, hgr, _⟩ := run_append_own (P := Try.prog) (W.alloc (.cells (.int .i64 (q : Int) :: M).toArray 131)) 0 70 ty 131 i72 _ 65 72 Try.underlying70 hi72 hz72 hs72 hb72 (by simp [Value.cells]) (by decide) wv s.ws.length (flat s.ws) hd1.hw
    ⟨W.heap.size, 0, none⟩ 1 1 (.int .i64 (q : Int) :: M) (by simp [hM]) (fun j u hj => by rw [addr_add, Nat.zero_add, hnew.cell]; exact hj) h1 (by unfold maxLen; omega) (by omega) (Nat.zero_le _)
  have hk2 := Kept.of_grown hgr
  obtain ⟨ap1, ap2, ap3⟩ := hd.apart
  have hb2 := hk2.blk hd1.hb (fun e => ap2 e)
  have hs2 := hk2.blk hd1.hs (fun e => ap3 e)
  have hkw : Kept (foot b bs wv) W W2 := (hk1.mono (T := foot b bs wv) (fun _ _ h => h.elim)).trans hk2 (fun k _ e => .inr (.inr e))
  have hown : ∃ ao l c, v' = .slice ao l c := by
    rcases how.2 with ⟨rfl, _⟩ | ⟨g, cap, cur, rfl, _⟩
    · exact ⟨_, _, _, rfl⟩
    · exact ⟨_, _, _, rfl⟩
  obtain ⟨ao, l, c, rfl⟩ := hown
  have hkk := Kept.setCell (S := fun k => k = b) W2 ⟨b, 1, none⟩ (.slice ao l c) rfl
  have hne : ∀ k, (Value.slice ao l c).ownBlock = some k → k ≠ b := by
    intro k e e2
    subst e2
    rcases how.2 with ⟨h0, _⟩ | ⟨g, cap, cur, h0, _, hg, _⟩
    · rw [h0] at e; simp [Value.ownBlock] at e
    · rw [h0] at e
      simp [Value.ownBlock] at e
      subst e
      have hgb : Blk W2 g cur.toList 131 := by unfold Blk; simpa using hg
      exact absurd rfl (hgb.ne hb2 (by decide))
  have hws : (flat (s.ws ++ [(q, M)])) = flat s.ws ++ (.int .i64 (q : Int) :: M) := by simp [flat]
  refine ⟨ao, l, c, W2, hrun, hb2.cell 1, hb2.frozen 1, hkw, Nat.le_trans hk1.size hk2.size, ?_, hkw.setCell' _ _ (.inl rfl), ?_⟩
  · refine ⟨hd.n1, hd.n2, hb2.setCell 1 _, hkk.blk hs2 (fun e => ap1 e.symm), ?_, hd.hl, hd.hB, ?_, hd.l1, hd.l2⟩
    · show World.ownsRow _ 0 131 65 _ (s.ws ++ [(q, M)]).length (flat (s.ws ++ [(q, M)]))
      rw [hws, List.length_append, List.length_singleton]
      exact ownsRow_kept how hkk (fun k e => hne k e)
    · intro p hp
      rcases List.mem_append.1 hp with hp | hp
      · exact hd.ok p hp
      · simp at hp; subst hp; exact ⟨hq, hM, hMb⟩
  · intro k e
    rcases append_block (P := Try.prog) (W.alloc (.cells (.int .i64 (q : Int) :: M).toArray 131)) 0 70 ty 131 i72 _ 65 72 Try.underlying70 hi72 hz72 hs72 hb72 wv s.ws.length (flat s.ws) hd1.hw
      ⟨W.heap.size, 0, none⟩ 1 1 (.int .i64 (q : Int) :: M) (by simp [hM]) (by decide) (fun j u hj => by rw [addr_add, Nat.zero_add, hnew.cell]; exact hj) h1 (by unfold maxLen; omega) (by omega) hrun k e with h | h
    · exact .inl h
    · exact .inr (by simp at h; omega)

end Go.Proofs.Ytnlcmgdeohbmoaa.D
