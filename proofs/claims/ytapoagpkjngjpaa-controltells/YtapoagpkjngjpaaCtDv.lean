/-
  A device and controls among other blocks: the calls of package control; controls compared.
-/
import Derived.Test.YtapoagpkjngjpaaCtRd
import Derived.Test.YtapoagpkjngjpaaDWr
import Derived.ProofKit
import Derived.OpenShut
import Derived.ShutString
import Derived.ChangeOld
import Derived.Deep.Slices
namespace Go.Proofs.Ytapoagpkjngjpaa
open Go.RowKit Go.Shelf
set_option linter.unusedSimpArgs false
set_option linter.unusedVariables false
set_option maxRecDepth 100000

def eqC (c d : Ct) : Bool := decide (c.gen = d.gen ∧ c.ep = d.ep ∧ c.ar = d.ar ∧ c.tl = d.tl ∧ c.nm = d.nm ∧ c.re = d.re ∧ c.lo = d.lo)
theorem eqC_self (c : Ct) : eqC c c = true := by simp [eqC]
theorem eqC_iff {c d : Ct} : eqC c d = true ↔ c = d := by
  obtain ⟨a1, a2, a3, a4, a5, a6, a7⟩ := c
  obtain ⟨b1, b2, b3, b4, b5, b6, b7⟩ := d
  simp [eqC]
theorem Try.guard23 : Try.prog.eqGuardType Try.prog.depth 23 = false := by kernel_rfl
theorem eqf23 (c d : Ct) (w : World) : (Op.equalIn 10000 23 (.agg (ctV c).toArray) (.agg (ctV d).toArray)).run Try.prog w = .ok (eqC c d) w := by
  have u3 := Try.underlying3
  have hS : Try.prog.underlying 23 = some (.struct (Try.prog.fieldsOf 23)) := by kernel_rfl
  have hp : Try.prog.stoodInHeld 23 = false := by kernel_rfl
  obtain ⟨a1, a2, a3, a4, a5, a6, a7⟩ := c
  obtain ⟨b1, b2, b3, b4, b5, b6, b7⟩ := d
  unfold ctV
  rw [show (10000 : Nat) = 9999 + 1 from rfl, run_equalIn_agg w 9999 23 _ _ hS hp]
  simp only [Program.fieldsOf, Try.underlying23]
  clear hS hp
  by_cases h1 : a1 = b1
  rotate_left
  · have g1 : (a1 == b1) = false := by simpa using h1
    have hf : eqC ⟨a1, a2, a3, a4, a5, a6, a7⟩ ⟨b1, b2, b3, b4, b5, b6, b7⟩ = false := by simp [eqC, h1]
    rw [hf]
    clear hf h1
    go_simp
  subst h1
  by_cases h2 : a2 = b2
  rotate_left
  · have g2 : (a2 == b2) = false := by simpa using h2
    have hf : eqC ⟨a1, a2, a3, a4, a5, a6, a7⟩ ⟨a1, b2, b3, b4, b5, b6, b7⟩ = false := by simp [eqC, h2]
    rw [hf]
    clear hf h2
    go_simp
  subst h2
  by_cases h3 : a3 = b3
  rotate_left
  · have g3 : (a3 == b3) = false := by simpa using h3
    have hf : eqC ⟨a1, a2, a3, a4, a5, a6, a7⟩ ⟨a1, a2, b3, b4, b5, b6, b7⟩ = false := by simp [eqC, h3]
    rw [hf]
    clear hf h3
    go_simp
  subst h3
  by_cases h4 : a4 = b4
  rotate_left
  · have g4 : (a4 == b4) = false := by simpa using h4
    have hf : eqC ⟨a1, a2, a3, a4, a5, a6, a7⟩ ⟨a1, a2, a3, b4, b5, b6, b7⟩ = false := by simp [eqC, h4]
    rw [hf]
    clear hf h4
    go_simp
  subst h4
  by_cases h5 : a5 = b5
  rotate_left
  · have g5 : (a5 == b5) = false := by simpa using h5
    have hf : eqC ⟨a1, a2, a3, a4, a5, a6, a7⟩ ⟨a1, a2, a3, a4, b5, b6, b7⟩ = false := by simp [eqC, h5]
    rw [hf]
    clear hf h5
    go_simp
  subst h5
  by_cases h6 : a6 = b6
  rotate_left
  · have g6 : (a6 == b6) = false := by simpa using h6
    have hf : eqC ⟨a1, a2, a3, a4, a5, a6, a7⟩ ⟨a1, a2, a3, a4, a5, b6, b7⟩ = false := by simp [eqC, h6]
    rw [hf]
    clear hf h6
    go_simp
  subst h6
  by_cases h7 : a7 = b7
  rotate_left
  · have g7 : (a7 == b7) = false := by simpa using h7
    have hf : eqC ⟨a1, a2, a3, a4, a5, a6, a7⟩ ⟨a1, a2, a3, a4, a5, a6, b7⟩ = false := by simp [eqC, h7]
    rw [hf]
    clear hf h7
    go_simp
  subst h7
  rw [eqC_self]
  go_simp
theorem bin23 (c d : Ct) (w : World) : (binOp .eql 23 (.agg (ctV c).toArray) (.agg (ctV d).toArray)).run Try.prog w = .ok (.bool (eqC c d)) w := by
  rw [run_eql_struct, eqf23]; rfl
theorem bin23n (c d : Ct) (w : World) : (binOp .neq 23 (.agg (ctV c).toArray) (.agg (ctV d).toArray)).run Try.prog w = .ok (.bool (!eqC c d)) w := by
  rw [run_neq_struct, eqf23]; rfl
section
variable {ρ : Operand → Value} {w : World} {dst : Option Tmp} {ty : TypeId} {pos : String} {aft : Array Edge} {gd : Option (Nat × Bool)} {x y : Operand}
theorem r_eq23 {c d : Ct} (hx : ρ x = .agg (ctV c).toArray) (hy : ρ y = .agg (ctV d).toArray) : (execOp ρ ⟨dst, .binOp .eql 23 x y 23, ty, pos, aft, gd⟩).run Try.prog w = .ok (.value (.bool (eqC c d))) w := by
  simp [execOp, hx, hy, run_eqGuard_agg _ _ _ _ _ _ _ Try.guard23, bin23]
theorem r_ne23 {c d : Ct} (hx : ρ x = .agg (ctV c).toArray) (hy : ρ y = .agg (ctV d).toArray) : (execOp ρ ⟨dst, .binOp .neq 23 x y 23, ty, pos, aft, gd⟩).run Try.prog w = .ok (.value (.bool (!eqC c d))) w := by
  simp [execOp, hx, hy, run_eqGuard_agg _ _ _ _ _ _ _ Try.guard23, bin23n]
end
section
variable {ops : Array Oper} {Q : Exit → Act → World → Prop} {a : Act} {w : World} {rest : List Oper} {dst : Option Tmp} {ty : TypeId} {pos : String} {aft : Array Edge} {x y : Operand} {gd : Option (Nat × Bool)}
theorem aw_eq23 {c d : Ct} {b : Bool} (hw : Region.wanted ⟨dst, .binOp .eql 23 x y 23, ty, pos, aft, gd⟩ (yielded ops a.tmps) = true) (hx : a.eval x = .agg (ctV c).toArray) (hy : a.eval y = .agg (ctV d).toArray) (hb : eqC c d = b)
    (h : wpList Try.prog ops Q rest (a.put dst (.bool b)) w) : wpList Try.prog ops Q (⟨dst, .binOp .eql 23 x y 23, ty, pos, aft, gd⟩ :: rest) a w := by
  subst hb
  exact wpList_step fun K hK => by rw [if_pos hw]; unfold Oper.wp; rw [r_eq23 hx hy]; exact hK _ _ h
theorem aw_ne23 {c d : Ct} {b : Bool} (hw : Region.wanted ⟨dst, .binOp .neq 23 x y 23, ty, pos, aft, gd⟩ (yielded ops a.tmps) = true) (hx : a.eval x = .agg (ctV c).toArray) (hy : a.eval y = .agg (ctV d).toArray) (hb : (!eqC c d) = b)
    (h : wpList Try.prog ops Q rest (a.put dst (.bool b)) w) : wpList Try.prog ops Q (⟨dst, .binOp .neq 23 x y 23, ty, pos, aft, gd⟩ :: rest) a w := by
  subst hb
  exact wpList_step fun K hK => by rw [if_pos hw]; unfold Oper.wp; rw [r_ne23 hx hy]; exact hK _ _ h
end
section
variable {w0 w : World} {b n : Nat} {s : D.DS} {G : List (Nat × List Value × TypeId)}
theorem Dv.ctread (h : D.Dv w0 w b n s G) (p : Nat) (hp : p + 2 ≤ n) (ho : s.off = false) (A B : List Nat) (hAB : A.length = 64 ∧ B.length = 64 ∧ (∀ x ∈ A, x < 256) ∧ ∀ x ∈ B, x < 256) (hv : D.part s.view p 2 = BV (A ++ B)) (r : Ct) (er : Int) (hr : resC (twoC A B) = (r, er)) :
    Calls Try.prog 17 #[.pointer (some ⟨b, 0, none⟩), .int .i64 p] w fun e w' => e = .returned (.tuple #[ctAgg r, .int .i64 er]) ∧ Kept (fun _ => False) w w' ∧ D.Dv w0 w' b n s G := by
  obtain ⟨F, hd, hF, hG⟩ := h.dev
  refine (ctread_at w b n s F hd p hp ho A B hAB hv r er hr).mono ?_
  rintro e w' ⟨rfl, hk⟩
  exact ⟨rfl, hk, h.same hk⟩
theorem Dv.ctspent (h : D.Dv w0 w b n s G) (p : Int) (c : Ct) (hg : 2305843009213693952 ≤ c.gen) :
    Calls Try.prog 14 #[.pointer (some ⟨b, 0, none⟩), .int .i64 p, ctAgg c] w fun e w' => e = .returned (.tuple #[ctAgg ct0, .int .i64 33]) ∧ D.Dv w0 w' b n s G := by
  refine (ctwrite_spent w b p c hg).mono ?_
  rintro e w' ⟨rfl, hk⟩
  exact ⟨rfl, h.same hk⟩
theorem Dv.ctarg (h : D.Dv w0 w b n s G) (p : Nat) (hp : p + 2 ≤ n) (c nx : Ct) (hg : c.gen < 2305843009213693952) (hlo : -9223372036854775808 ≤ c.gen) (hnx : { c with gen := c.gen + 1 } = nx) (hr : rightC nx = false) (hc : s.calls < 4611686018427387900) (hlen : s.ws.length + 1 < 1000000000) :
    Calls Try.prog 14 #[.pointer (some ⟨b, 0, none⟩), .int .i64 p, ctAgg c] w fun e w' => e = .returned (.tuple #[ctAgg ct0, .int .i64 2]) ∧ D.Dv w0 w' b n s G := by
  obtain ⟨F, hd, hF, hG⟩ := h.dev
  refine (ctwrite_at w b n s F hd p hp c nx hg hlo hnx false hr (nx.gen % 2).toNat (by omega) hc hlen _ _ rfl _ rfl rfl).mono ?_
  rintro e w' ⟨h1, -⟩
  obtain ⟨he, hk⟩ := h1 rfl
  exact ⟨he, h.same hk⟩
/-- Write of one whose next is right: what it answers, and how the device stands then. -/
theorem Dv.ctwrite (h : D.Dv w0 w b n s G) (p : Nat) (hp : p + 2 ≤ n) (c nx : Ct) (hg : c.gen < 2305843009213693952) (hnx : { c with gen := c.gen + 1 } = nx) (hr : rightC nx = true) (q : Nat) (hq : nx.gen % 2 = q)
    (hc : s.calls < 4611686018427387900) (hlen : s.ws.length + 1 < 1000000000) (s1 : D.DS) (hs1 : wDev s (p + q) 1 (putC nx) = s1) (rv : Ct) (er : Int) (s2 : D.DS)
    (hres : (if wErr s ≠ 0 then (ct0, wErr s, s1) else if s1.errF ≠ 0 then (ct0, s1.errF, s1.flushed) else (nx, 0, s1.flushed)) = (rv, er, s2)) :
    Calls Try.prog 14 #[.pointer (some ⟨b, 0, none⟩), .int .i64 p, ctAgg c] w fun e w' => e = .returned (.tuple #[ctAgg rv, .int .i64 er]) ∧ D.Dv w0 w' b n s2 G := by
  obtain ⟨F, hd, hF, hG⟩ := h.dev
  have hi := (rightC_iff nx).1 hr
  have hlo : -9223372036854775808 ≤ c.gen := by rw [← hnx] at hi; simp only [] at hi; omega
  refine (ctwrite_at w b n s F hd p hp c nx hg hlo hnx true hr q hq hc hlen (wErr s) s1.errF rfl s1 hs1 rfl).mono ?_
  rintro e w' ⟨-, h2, h3, h4⟩
  by_cases e1 : wErr s = 0
  · rw [if_neg (by simp [e1])] at hres
    by_cases e2 : s1.errF = 0
    · rw [if_neg (by simp [e2])] at hres
      simp only [Prod.mk.injEq] at hres
      obtain ⟨rfl, rfl, rfl⟩ := hres
      obtain ⟨he, hs⟩ := h4 rfl e1 e2
      exact ⟨he, h.stepF hF hG hs⟩
    · rw [if_pos e2] at hres
      simp only [Prod.mk.injEq] at hres
      obtain ⟨rfl, rfl, rfl⟩ := hres
      obtain ⟨he, hs⟩ := h3 rfl e1 e2
      exact ⟨he, h.stepF hF hG hs⟩
  · rw [if_pos e1] at hres
    simp only [Prod.mk.injEq] at hres
    obtain ⟨rfl, rfl, rfl⟩ := hres
    obtain ⟨he, hs⟩ := h2 rfl e1
    exact ⟨he, h.stepF hF hG hs⟩
end
end Go.Proofs.Ytapoagpkjngjpaa

/-
  What the statements ask ahead of everything else.
-/
namespace Go.Proofs.Ytapoagpkjngjpaa
open Go.RowKit Go.Shelf
set_option linter.unusedSimpArgs false
set_option linter.unusedVariables false
set_option maxRecDepth 100000

theorem Dvm {w0 w w' : World} {b n g : Nat} {s : D.DS} {G : List (Nat × List Value × TypeId)} {L : List Value} {t : TypeId} (h : D.Dv w0 w b n s G) (hk : Kept (fun _ => False) w w') (hg : g = w.heap.size) (hb : Blk w' w.heap.size L t) : D.Dv w0 w' b n s ((g, L, t) :: G) := by
  subst hg
  exact h.more hk _ L t hb (Nat.le_refl _)
def z64 : List Nat := List.replicate 64 0
def cF : Ct := ⟨4, 1, 0, 1, 7, 0, 0⟩
def nF : Ct := ⟨5, 1, 0, 1, 7, 0, 0⟩
def LF : List (List Nat) := [z64, z64, putC nF, z64]
theorem z64_ok : z64.length = 64 ∧ ∀ x ∈ z64, x < 256 := ⟨by simp [z64], fun x hx => by rw [List.eq_of_mem_replicate hx]; decide⟩
theorem built23F : Try.prog.built 23 [(0, .int .i64 4), (1, .int .i64 1), (3, .int .i64 1), (4, .int .i64 7)] = some (ctV cF).toArray := by kernel_rfl
theorem r_build23F {ρ : Operand → Value} {w : World} {dst : Option Tmp} {ty : TypeId} {pos : String} {aft : Array Edge} {gd : Option (Nat × Bool)} {x0 x1 x3 x4 : Operand} (h0 : ρ x0 = .int .i64 4) (h1 : ρ x1 = .int .i64 1) (h3 : ρ x3 = .int .i64 1) (h4 : ρ x4 = .int .i64 7) :
    (execOp ρ ⟨dst, .build 23 #[(0, x0), (1, x1), (3, x3), (4, x4)], ty, pos, aft, gd⟩).run Try.prog w = .ok (.value (.agg (ctV cF).toArray)) w := by
  have hr := run_build (P := Try.prog) w 23 #[(0, .int .i64 4), (1, .int .i64 1), (3, .int .i64 1), (4, .int .i64 7)] _ (by simpa using built23F)
  simp [execOp, h0, h1, h3, h4, hr]
theorem zeros_eq : z64 = zeros64 := rfl
theorem sF_64 : ∀ x ∈ List.replicate 4 (List.replicate 64 0), x.length = 64 := by
  intro x hx
  rw [List.eq_of_mem_replicate hx]; simp
theorem LF_64 : ∀ x ∈ LF, x.length = 64 := by
  intro x hx
  simp only [LF, List.mem_cons, List.not_mem_nil, or_false] at hx
  rcases hx with rfl | rfl | rfl | rfl
  · exact z64_ok.1
  · exact z64_ok.1
  · exact putC_length _
  · exact z64_ok.1
theorem nF_right : rightC nF = true := by decide
/-- The device behind the first Write. -/
theorem resF : (if wErr (D.DS.new 4) ≠ 0 then (ct0, wErr (D.DS.new 4), wDev (D.DS.new 4) (1 + 1) 1 (putC nF)) else if (wDev (D.DS.new 4) (1 + 1) 1 (putC nF)).errF ≠ 0 then (ct0, (wDev (D.DS.new 4) (1 + 1) 1 (putC nF)).errF, (wDev (D.DS.new 4) (1 + 1) 1 (putC nF)).flushed) else (nF, 0, (wDev (D.DS.new 4) (1 + 1) 1 (putC nF)).flushed)) = (nF, (0 : Int), (⟨BV LF.flatten, [], 2, -1, false⟩ : D.DS)) := by
  rw [new_lit, wErr_lit, wDev_lit _ _ _ _ _ (by decide) _ (putC_length _)]
  rw [if_neg (by decide), List.nil_append, errF_lit, if_neg (by decide), flushed_lit sF_64 (by simp) (putC_length _) _ _ (by decide)]
  rfl
theorem twoF1 : resC (twoC z64 (putC nF)) = (nF, 0) := by
  rw [twoC_1 nF_right (by decide) (by rw [zeros_eq]; exact atMost_zeros _), resC_right nF_right]
theorem twoF2 : resC (twoC (putC nF) z64) = (ct0, 20) := by
  have h1 : pickC 0 ct0 (putC nF) = ct0 := by
    unfold pickC
    rw [getC_put nF_right, if_neg (by decide)]
  unfold twoC
  rw [h1, pickC_atMost (by rw [zeros_eq]; exact atMost_zeros _)]
  rfl

set_option maxHeartbeats 8000000 in
theorem ctfirst_at (w : World) : Calls Try.prog 6 #[] w fun e w' => e = .returned (.bool true) ∧ Kept (fun _ => False) w w' := by
  obtain ⟨i23, hi23, hz23, hs23, hb23⟩ := info_parts Try.info23
  have Hi23 := hide hi23
  have Hz23 := hide hz23
  have HnF := hide (ctV_one nF)
  have HcF := hide (ctV_one cF)
  have Hc0 := hide (ctV_one ct0)
  clear hi23 hz23 hs23 hb23
  go_enter Try.func6, Try.ntmps6
  go_wp2_with fail
  refine (D.Dv.new w w 4 (by decide) (by decide) (Kept.refl _ _) [] (by simp)).mono ?_
  rintro e w1 ⟨b, rfl, h1⟩
  have D1 := hide h1
  clear h1
  go_wp2_with (first
    | ((with_reducible refine aw_alloc (dst := some 3) Hi23.out Hz23.out ?_); intro w2 hb_ hk1_ hz_; have Yz_w2 := hide hz_; clear hz_)
    | ((with_reducible refine aw_store (x := .tmp 3) (M := ctV cF) Try.agg23 rfl rfl rfl HcF.out hb_ (by simp [Value.cells]) ?_); intro w3 hw_ hk2_ hz2_; have Yz_w3 := hide hz2_; clear hz2_; rw [put_whole _ _ (by simp [Value.cells, ctV])] at hw_)
    | ((with_reducible refine wpList_run rfl (r_build23F rfl rfl rfl rfl) ?_))
    | (with_reducible refine aw_load (x := .tmp 3) (M := ctV cF) Try.agg23 rfl hw_ (by simp [ctV]) (by simp [ctV]) ?_)
    | fail)
  have hkk_ : Kept (fun _ => False) w1 w3 := hk1_.trans hk2_ (fun i hi h => by omega)
  obtain ⟨g3, hg3⟩ : ∃ x, x = w1.heap.size := ⟨_, rfl⟩
  have D3 := hide (Dvm D1.out hkk_ hg3 hw_)
  rw [← hg3]
  clear hb_ hk1_ hw_ hk2_ hkk_ hg3 D1  Yz_w3
  refine (Dv.ctwrite D3.out 1 (by decide) cF nF (by decide) rfl nF_right 1 (by decide) (by decide) (by decide) _ rfl nF 0 ⟨BV LF.flatten, [], 2, -1, false⟩ resF).mono ?_
  rintro e w4 ⟨rfl, h4⟩
  have D4 := hide h4
  clear h4 D3
  unfold ctAgg
  go_wp2_with (first
    | ((with_reducible refine aw_alloc (dst := some 4) Hi23.out Hz23.out ?_); intro w5 hb_ hk1_ hz_; have Yz_w5 := hide hz_; clear hz_)
    | ((with_reducible refine aw_store (x := .tmp 4) (M := ctV nF) Try.agg23 rfl rfl rfl HnF.out hb_ (by simp [Value.cells]) ?_); intro w6 hw_ hk2_ hz2_; have Yz_w6 := hide hz2_; clear hz2_; rw [put_whole _ _ (by simp [Value.cells, ctV])] at hw_)
    | fail)
  have hkk_ : Kept (fun _ => False) w4 w6 := hk1_.trans hk2_ (fun i hi h => by omega)
  obtain ⟨g4, hg4⟩ : ∃ x, x = w4.heap.size := ⟨_, rfl⟩
  have D6 := hide (Dvm D4.out hkk_ hg4 hw_)
  rw [← hg4]
  clear hb_ hk1_ hw_ hk2_ hkk_ hg4 D4  Yz_w6
  refine (Dv.ctread D6.out 1 (by decide) rfl z64 (putC nF) ⟨z64_ok.1, putC_length _, z64_ok.2, putC_lt _⟩ (part_flat LF_64 rfl rfl) nF 0 twoF1).mono ?_
  rintro e w7 ⟨rfl, -, h7⟩
  have D7 := hide h7
  clear h7 D6
  unfold ctAgg
  go_wp2_with (first
    | ((with_reducible refine aw_alloc (dst := some 6) Hi23.out Hz23.out ?_); intro w8 hb_ hk1_ hz_; have Yz_w8 := hide hz_; clear hz_)
    | ((with_reducible refine aw_store (x := .tmp 6) (M := ctV nF) Try.agg23 rfl rfl rfl HnF.out hb_ (by simp [Value.cells]) ?_); intro w9 hw_ hk2_ hz2_; have Yz_w9 := hide hz2_; clear hz2_; rw [put_whole _ _ (by simp [Value.cells, ctV])] at hw_)
    | fail)
  have hkk_ : Kept (fun _ => False) w7 w9 := hk1_.trans hk2_ (fun i hi h => by omega)
  obtain ⟨g6, hg6⟩ : ∃ x, x = w7.heap.size := ⟨_, rfl⟩
  have D9 := hide (Dvm D7.out hkk_ hg6 hw_)
  rw [← hg6]
  clear hb_ hk1_ hw_ hk2_ hkk_ hg6 D7  Yz_w9
  refine (Dv.ctread D9.out 2 (by decide) rfl (putC nF) z64 ⟨putC_length _, z64_ok.1, putC_lt _, z64_ok.2⟩ (part_flat LF_64 rfl rfl) ct0 20 twoF2).mono ?_
  rintro e w10 ⟨rfl, -, h10⟩
  have D10 := hide h10
  clear h10 D9
  unfold ctAgg
  go_wp2_with (first
    | ((with_reducible refine aw_alloc (dst := some 8) Hi23.out Hz23.out ?_); intro w11 hb_ hk1_ hz_; have Yz_w11 := hide hz_; clear hz_)
    | ((with_reducible refine aw_store (x := .tmp 8) (M := ctV ct0) Try.agg23 rfl rfl rfl Hc0.out hb_ (by simp [Value.cells]) ?_); intro w12 hw_ hk2_ hz2_; have Yz_w12 := hide hz2_; clear hz2_; rw [put_whole _ _ (by simp [Value.cells, ctV])] at hw_)
    | (with_reducible refine aw_load (x := .tmp 3) (M := ctV cF) Try.agg23 rfl ((hk1_.trans hk2_ (fun i hi h => by omega)).blk (D10.out.blk (g3, ctV cF, 23) (by simp)) (fun h => h)) (by simp [ctV]) (by simp [ctV]) ?_)
    | fail)
  have hkk_ : Kept (fun _ => False) w10 w12 := hk1_.trans hk2_ (fun i hi h => by omega)
  obtain ⟨g8, hg8⟩ : ∃ x, x = w10.heap.size := ⟨_, rfl⟩
  have D12 := hide (Dvm D10.out hkk_ hg8 hw_)
  rw [← hg8]
  clear hb_ hk1_ hw_ hk2_ hkk_ hg8 D10  Yz_w12
  refine (ctput_at w12 cF (by decide)).mono ?_
  rintro e w13 ⟨gp, rfl, hbp, hgp, hk13⟩
  have D13 := hide (D12.out.same hk13)
  have HGt := hide (ctget_at w13 (.slice (some ⟨gp, 0, none⟩) 64 64) (putC cF) (by
    have := hbp.src (B := putC cF) (cap := 64) (by rw [List.take_of_length_le (by rw [BV_length, putC_length]; exact Nat.le_refl _)]) (putC_lt _) (by rw [putC_length]; exact Nat.le_refl _)
    rw [putC_length] at this
    exact this) (by rw [putC_length]; decide))
  rw [getC_put (by decide : rightC cF = true)] at HGt
  clear hbp hgp hk13 D12
  go_wp2_with fail
  refine HGt.out.mono ?_
  rintro e w14 ⟨rfl, hk14⟩
  have D14 := hide (D13.out.same hk14)
  clear hk14 D13 HGt
  unfold ctAgg
  go_wp2_with (first
    | ((with_reducible refine aw_alloc (dst := some 10) Hi23.out Hz23.out ?_); intro w15 hb_ hk1_ hz_; have Yz_w15 := hide hz_; clear hz_)
    | ((with_reducible refine aw_store (x := .tmp 10) (M := ctV cF) Try.agg23 rfl rfl rfl HcF.out hb_ (by simp [Value.cells]) ?_); intro w16 hw_ hk2_ hz2_; have Yz_w16 := hide hz2_; clear hz2_; rw [put_whole _ _ (by simp [Value.cells, ctV])] at hw_; have hkk_ : Kept (fun _ => False) w14 w16 := hk1_.trans hk2_ (fun i hi h => by omega); have B4 := hide (hkk_.blk (D14.out.blk (g4, ctV nF, 23) (by simp)) (fun h => h)); have B6 := hide (hkk_.blk (D14.out.blk (g6, ctV nF, 23) (by simp)) (fun h => h)); have B3 := hide (hkk_.blk (D14.out.blk (g3, ctV cF, 23) (by simp)) (fun h => h)); have c4 : w16.cell? ⟨g4, 0, none⟩ = some (.int .i64 5) := B4.out.cell 0; have HKE := hide (D14.out.kept.trans hkk_ (fun _ _ h => h)); clear hkk_)
    | (with_reducible refine aw_loadG (x := .tmp 4) (t := 23) (M := ctV nF) rfl Try.agg23 rfl B4.out (by simp [ctV]) (by simp [ctV]) ?_)
    | (with_reducible refine aw_loadG (x := .tmp 6) (t := 23) (M := ctV nF) rfl Try.agg23 rfl B6.out (by simp [ctV]) (by simp [ctV]) ?_)
    | (with_reducible refine aw_loadG (x := .tmp 10) (t := 23) (M := ctV cF) rfl Try.agg23 rfl hw_ (by simp [ctV]) (by simp [ctV]) ?_)
    | (with_reducible refine aw_loadG (x := .tmp 3) (t := 23) (M := ctV cF) rfl Try.agg23 rfl B3.out (by simp [ctV]) (by simp [ctV]) ?_)
    | (with_reducible refine aw_eq23 (c := nF) (d := nF) rfl rfl rfl (eqC_self nF) ?_)
    | (with_reducible refine aw_eq23 (c := cF) (d := cF) rfl rfl rfl (eqC_self cF) ?_)
    | fail)
  refine (ctright_at w16 cF true (by decide)).mono ?_
  rintro e w17 ⟨rfl, hk17⟩
  go_wp2_with fail
  refine (ctright_at w17 ct0 false (by decide)).mono ?_
  rintro e w18 ⟨rfl, hk18⟩
  go_wp2
  go_ret
  exact ⟨rfl, (HKE.out.trans hk17 (fun _ _ h => h)).trans hk18 (fun _ _ h => h)⟩
end Go.Proofs.Ytapoagpkjngjpaa

/-
  Bytes, bools and controls among a law's arguments: how they read.
-/
namespace Go.Proofs.Ytapoagpkjngjpaa
open Go.ChangeShapes Go.WideShapes Go.ChangeAt Go.RowKit
set_option linter.unusedSimpArgs false
set_option linter.unusedVariables false
set_option maxRecDepth 100000

theorem Try.own : ownKnob Try.prog.godebug = none := by kernel_rfl
theorem Try.laidOut : laidOutB Try.prog = true := by kernel_rfl
theorem Try.cells5 : Try.prog.cellsOf 5 = 1 := by kernel_rfl
theorem Try.cells4 : Try.prog.cellsOf 4 = 1 := by kernel_rfl
theorem Try.cells3 : Try.prog.cellsOf 3 = 1 := by kernel_rfl
theorem Try.cells23 : Try.prog.cellsOf 23 = 7 := by kernel_rfl
theorem Try.fields23 : ∃ fs, Try.prog.underlying 23 = some (.struct fs) ∧ (fs.toList.map fun f => (f.type, f.offset)) = [(3, 0), (3, 1), (3, 2), (3, 3), (3, 4), (3, 5), (3, 6)] := ⟨_, Try.underlying23, by kernel_rfl⟩

theorem open_bytes {H : Type} {enc : TypeId × Value → H} {w : World} {base : Nat} {spare : Nat → Bool} {held : Bool} {ao : Option Addr} {len cap : Nat} {d : DataW H} {p : List MemPlace}
    (h : DataW.Trod enc Try.prog w base spare held 24 (.slice ao len cap) d p) : ∃ B : List Nat, B.length = len ∧ len ≤ 9223372036854775807 ∧ Src w (.slice ao len cap) B := by
  obtain ⟨fuel, hf⟩ := h
  rcases Go.Deep.open_slice1 Try.underlying24 Try.cells5 hf with ⟨hcs, _⟩ | ⟨a, len', cap', m, n, V, D, Pl, hcs, _, hl, hcm, hm, hxe, hx⟩
  · simp [Value.cells] at hcs
    obtain ⟨rfl, rfl, rfl⟩ := hcs
    exact ⟨[], rfl, Nat.zero_le _, ⟨none, 0, rfl, Nat.le_refl _, by simp, fun h => absurd h (by simp), fun _ => rfl⟩⟩
  · simp [Value.cells] at hcs
    obtain ⟨rfl, rfl, rfl⟩ := hcs
    have hlm : len ≤ m := by rw [hm]; split <;> omega
    have each : ∀ i, i < len → ∃ q : Nat, V i = .int .u8 (q : Int) ∧ q < 256 := by
      intro i hi
      obtain ⟨q, e0, _, wq⟩ := DataW.trod_int Try.underlying5 (hx i (by omega)).2
      have hb := bounds_u8 wq
      simp at e0
      exact ⟨q.toNat, by rw [e0]; congr 1; omega, by omega⟩
    have hnum : ∀ i, i < len → V i = .int .u8 ((match V i with | .int _ n => n.toNat | _ => 0 : Nat) : Int) ∧ (match V i with | .int _ n => n.toNat | _ => 0 : Nat) < 256 := by
      intro i hi
      obtain ⟨q, e, hq⟩ := each i hi
      rw [e]
      exact ⟨by simp, by simpa using hq⟩
    refine ⟨(List.range len).map (fun i => match V i with | .int _ n => n.toNat | _ => 0), by simp, by unfold maxLen at hcm; omega, ⟨some a, cap, by simp, by simpa using hl, ?_, ?_, fun h => by cases h⟩⟩
    · intro u hu
      simp only [List.mem_map, List.mem_range] at hu
      obtain ⟨i, hi, rfl⟩ := hu
      exact (hnum i hi).2
    · intro h0
      simp at h0
      have h1 := (hx 0 (by omega)).1
      obtain ⟨sb, so, sp⟩ := a
      have hsp : sp = none := by
        simp [Addr.add] at h1
        simpa using World.cell?_spot h1
      subst hsp
      refine ⟨sb, so, rfl, ?_⟩
      intro j u hj
      simp only [BV, List.map_map] at hj
      obtain ⟨hj1, hj2⟩ := List.getElem?_eq_some_iff.1 hj
      simp only [List.length_map, List.length_range] at hj1
      simp only [List.getElem_map, List.getElem_range, Function.comp] at hj2
      have h2 := (hx j (by omega)).1
      rw [addr_add] at h2
      rw [h2, (hnum j hj1).1, hj2]
theorem open_bools {H : Type} {enc : TypeId × Value → H} {w : World} {base : Nat} {spare : Nat → Bool} {held : Bool} {ao : Option Addr} {len cap : Nat} {d : DataW H} {p : List MemPlace}
    (h : DataW.Trod enc Try.prog w base spare held 35 (.slice ao len cap) d p) : ∃ ks : List Bool, D.keepIs w (.slice ao len cap) ks (fun _ => False) := by
  obtain ⟨fuel, hf⟩ := h
  rcases Go.Deep.open_slice1 Try.underlying35 Try.cells4 hf with ⟨hcs, _⟩ | ⟨a, len', cap', m, n, V, D, Pl, hcs, _, hl, hcm, hm, hxe, hx⟩
  · simp [Value.cells] at hcs
    obtain ⟨rfl, rfl, rfl⟩ := hcs
    exact ⟨[], none, 0, rfl, by decide, fun i hi => by simp at hi⟩
  · simp [Value.cells] at hcs
    obtain ⟨rfl, rfl, rfl⟩ := hcs
    have hlm : len ≤ m := by rw [hm]; split <;> omega
    have each : ∀ i, i < len → V i = .bool (match V i with | .bool q => q | _ => false) := by
      intro i hi
      obtain ⟨q, e0, _⟩ := DataW.trod_bool Try.underlying4 (hx i (by omega)).2
      simp at e0
      rw [e0]
    refine ⟨(List.range len).map (fun i => match V i with | .bool q => q | _ => false), some a, cap, by simp, by simp; unfold maxLen at hcm; omega, fun i hi => ?_⟩
    simp only [List.length_map, List.length_range] at hi
    have h1 := (hx i (by omega)).1
    have h9 := (hx 0 (by omega)).1
    obtain ⟨sb, so, sp⟩ := a
    have hsp : sp = none := by
      simp [Addr.add] at h9
      simpa using World.cell?_spot h9
    subst hsp
    refine ⟨sb, so, rfl, ?_, fun h => h⟩
    rw [addr_add] at h1
    rw [h1, each i hi]
    simp [hi]
theorem read_ct {H : Type} {enc : TypeId × Value → H} {w : World} {base : Nat} {spare : Nat → Bool} {held : Bool} {fuel : Nat} {x : DataW H × List MemPlace} {cs : List Value} (hl : cs.length = 7) (h : DataW.trod enc Try.prog w base spare held fuel 23 cs = some x) :
    ∃ c : Ct, cs = ctV c ∧ (-9223372036854775808 ≤ c.gen ∧ c.gen ≤ 9223372036854775807) := by
  obtain ⟨fs, hu, hfs⟩ := Try.fields23
  obtain ⟨xs, m, _, _, _, hxl, hel⟩ := DataW.trod_struct hu h
  have hsz : fs.size = 7 := by have := congrArg List.length hfs; simpa using this
  have get : ∀ (i : Nat) (o : Nat), (fs.toList.map fun f => (f.type, f.offset))[i]? = some (3, o) → o < 7 → ∃ y, DataW.trod enc Try.prog w base spare held m 3 [cs.getD o (.int .i64 0)] = some y := by
    intro i o hi ho
    simp only [List.getElem?_map, Option.map_eq_some_iff] at hi
    obtain ⟨f, hf, hfe⟩ := hi
    have hf' : fs[i]? = some f := by simpa using hf
    have h1 := hel i f hf'
    have ht : f.type = 3 := congrArg Prod.fst hfe
    have hof : f.offset = o := congrArg Prod.snd hfe
    rw [ht, hof, Try.cells3] at h1
    have hi5 : i < fs.size := (Array.getElem?_eq_some_iff.1 hf').1
    obtain ⟨y, hy⟩ : ∃ y, xs[i]? = some y := ⟨_, List.getElem?_eq_getElem (by omega)⟩
    rw [hy] at h1
    have hd : (cs.drop o).take 1 = [cs.getD o (.int .i64 0)] := by
      rw [List.drop_eq_getElem_cons (by omega), List.getD_eq_getElem?_getD, List.getElem?_eq_getElem (by omega)]
      rfl
    rw [hd] at h1
    exact ⟨y, h1⟩
  obtain ⟨v0, v1, v2, v3, v4, v5, v6, rfl⟩ : ∃ v0 v1 v2 v3 v4 v5 v6, cs = [v0, v1, v2, v3, v4, v5, v6] := by
    match cs, hl with
    | [v0, v1, v2, v3, v4, v5, v6], _ => exact ⟨v0, v1, v2, v3, v4, v5, v6, rfl⟩
  obtain ⟨y0, g0⟩ := get 0 0 (by rw [hfs]; rfl) (by decide)
  obtain ⟨y1, g1⟩ := get 1 1 (by rw [hfs]; rfl) (by decide)
  obtain ⟨y2, g2⟩ := get 2 2 (by rw [hfs]; rfl) (by decide)
  obtain ⟨y3, g3⟩ := get 3 3 (by rw [hfs]; rfl) (by decide)
  obtain ⟨y4, g4⟩ := get 4 4 (by rw [hfs]; rfl) (by decide)
  obtain ⟨y5, g5⟩ := get 5 5 (by rw [hfs]; rfl) (by decide)
  obtain ⟨y6, g6⟩ := get 6 6 (by rw [hfs]; rfl) (by decide)
  obtain ⟨a0, e0, _, w0⟩ := DataW.trod_int Try.underlying3 g0
  obtain ⟨a1, e1, _, _⟩ := DataW.trod_int Try.underlying3 g1
  obtain ⟨a2, e2, _, _⟩ := DataW.trod_int Try.underlying3 g2
  obtain ⟨a3, e3, _, _⟩ := DataW.trod_int Try.underlying3 g3
  obtain ⟨a4, e4, _, _⟩ := DataW.trod_int Try.underlying3 g4
  obtain ⟨a5, e5, _, _⟩ := DataW.trod_int Try.underlying3 g5
  obtain ⟨a6, e6, _, _⟩ := DataW.trod_int Try.underlying3 g6
  simp at e0 e1 e2 e3 e4 e5 e6
  subst e0 e1 e2 e3 e4 e5 e6
  exact ⟨⟨a0, a1, a2, a3, a4, a5, a6⟩, rfl, bounds_i64 w0⟩
theorem open_ct {H : Type} {enc : TypeId × Value → H} {w : World} {base b0 : Nat} {spare : Nat → Bool} {held : Bool} {v : Value} {d : DataW H} {p : List MemPlace} (hv : Value.okWide Try.prog w .any b0 23 v)
    (h : DataW.Trod enc Try.prog w base spare held 23 v d p) : ∃ c : Ct, v = ctAgg c ∧ (-9223372036854775808 ≤ c.gen ∧ c.gen ≤ 9223372036854775807) := by
  obtain ⟨cs, rfl, hsz⟩ := okWide_struct Try.underlying23 hv
  rw [Try.cells23] at hsz
  obtain ⟨fuel, hf⟩ := h
  obtain ⟨c, hcs, h1⟩ := read_ct (cs := cs.toList) (x := (d, p)) (by simpa using hsz) (by simpa [Value.cells] using hf)
  refine ⟨c, ?_, h1⟩
  have : cs = (ctV c).toArray := by rw [← hcs]
  rw [this]
  rfl
end Go.Proofs.Ytapoagpkjngjpaa
