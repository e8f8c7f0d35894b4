/-
  What PoolPlays keeps from round to round; what each call does to it.
-/
import Derived.Test.YtnlcmgdeohbmoaaJ44
import Derived.Test.YtnlcmgdeohbmoaaJ45
import Derived.Test.YtnlcmgdeohbmoaaJ46
namespace Go.Proofs.Ytnlcmgdeohbmoaa
open Go.RowKit Go.Shelf
set_option linter.unusedSimpArgs false
set_option linter.unusedVariables false
set_option maxRecDepth 100000

theorem Try.info53 : (Try.prog.info? 53).map (fun i => (i.zero, i.size, i.bytes)) = some (some (.agg #[.int .i64 0, .int .i64 0, .slice none 0 0, .slice none 0 0]), 4, 64) := by kernel_rfl
theorem Try.agg53 : aggSize Try.prog 53 4 := by
  obtain ⟨i0, hi, _, hs, _⟩ := info_parts Try.info53
  exact ⟨⟨i0, hi, hs⟩, _, Try.underlying53, .inr ⟨_, rfl⟩⟩
/-- An operation of the law in memory. -/
structure OpP where
  kd : Int
  n : Int
  s : Sl
  ws : List Wv
  kv : Sl
  ks : List Bool
def OpP.cells (x : OpP) : List Value := [.int .i64 x.kd, .int .i64 x.n, .slice x.s.a x.s.n x.s.c, .slice x.kv.a x.kv.n x.kv.c]
structure OpIs (w : World) (x : OpP) : Prop where
  ws : WsAt w x.s.v x.ws
  ks : D.keepIs w x.kv.v x.ks (fun k => w.heap.size ≤ k)
  kd : -9223372036854775808 ≤ x.kd ∧ x.kd ≤ 9223372036854775807
  n : -9223372036854775808 ≤ x.n ∧ x.n ≤ 9223372036854775807
def OpsP (w : World) (v : Value) (m : Nat) : Prop := ∃ ao cap, v = .slice ao m cap ∧ m ≤ 9223372036854775807 ∧ ∀ k, k < m → ∃ g off x, ao = some ⟨g, off, none⟩ ∧ Cells w g (off + k * 4) (OpP.cells x) ∧ OpIs w x
theorem keepIs_mono {w : World} {kv : Value} {ks : List Bool} {S T : NSet} (h : D.keepIs w kv ks S) (hT : ∀ k, T k → S k) : D.keepIs w kv ks T := by
  obtain ⟨ao, cap, h1, h2, h3⟩ := h
  refine ⟨ao, cap, h1, h2, fun i hi => ?_⟩
  obtain ⟨kb, ko, e1, e2, e3⟩ := h3 i hi
  exact ⟨kb, ko, e1, e2, fun t => e3 (hT _ t)⟩
/-- One block of another type has changed. -/
theorem RowB.keptX {w w' : World} {v : Value} {n N bx : Nat} {vs L : List Value} {t u : TypeId} (h : RowB w v n vs t N) (hb : Blk w bx L u) (ht : t ≠ u) (hk : Kept (fun j => j = bx) w w') : RowB w' v n vs t N := by
  obtain ⟨g, cap, C, h1, h2, h3⟩ := h
  exact ⟨g, cap, C, h1, hk.blk h2 (fun e => ht (by subst e; exact (h2.same hb).2)), h3⟩
section
variable {W w w' w1 : World} {db b bx fr n k N nd : Nat} {s s' : D.DS} {l l' : PL} {rv rv' hv hv' dv dv' : Value} {H H' : List (List Nat)} {T T' : List Bool}
theorem RfP.keptX (h : RfP w N nd s rv fr n hv dv H T) {L : List Value} (hb : Blk w bx L 37) (hk : Kept (fun j => j = bx) w w') : RfP w' N nd s rv fr n hv dv H T :=
  { h with wt := ownsRow_kept h.wt hk (fun k hk e => D.ownsRow_not h.wt hb (by decide) (e ▸ hk)), hh := h.hh.keptX hb (by decide) hk, hd := h.hd.keptX hb (by decide) hk }
theorem RfP.one (h : RfP w N nd s rv fr n hv dv H T) : ∀ v ∈ refPL s rv fr hv dv, v.oneCell' = true := by
  obtain ⟨ro, rc, rfl⟩ := h.wt.slice
  obtain ⟨hg, hcap, CH, rfl, -⟩ := h.hh
  obtain ⟨dg, dcap, CT, rfl, -⟩ := h.hd
  exact refPL_one
theorem PDv.keptX {F X : NSet} (h : PDv w db nd s b l F X) {L : List Value} (hb : Blk w bx L 37) (hk : Kept (fun j => j = bx) w w') : PDv w' db nd s b l F X := by
  refine ⟨h.dev.kept hk (fun k hf e => ?_), h.pool.kept hk (fun k hx e => ?_), h.ap, h.fit⟩
  · subst e; exact DevAt_nb h.dev hb (by decide) (by decide) (by decide) hf
  · subst e
    obtain ⟨ph, vh, pd, vd, hp, hxx⟩ := h.pool
    rcases (hxx k).1 hx with e | e | e
    · subst e; exact absurd (hb.same hp.blk).2 (by decide)
    · exact hp.hm.ne_own hb (by decide) (by decide) e
    · exact hp.dm.ne_own hb (by decide) (by decide) e
theorem Pw.keptX (h : Pw W w db nd s b l) {L : List Value} (hb : Blk w bx L 37) (hk : Kept (fun j => j = bx) w w') (hge : W.heap.size ≤ bx) : Pw W w' db nd s b l := by
  obtain ⟨F, X, hp, hn⟩ := h.pd
  exact ⟨⟨F, X, hp.keptX hb hk, hn⟩, h.kept.trans hk (fun i hi e => by omega)⟩
/-- The document's pool in the law's variable. -/
structure HB (w : World) (bx N nd : Nat) (s : D.DS) (rv : Value) (fr n : Nat) (hv dv : Value) (H : List (List Nat)) (T : List Bool) : Prop where
  blk : Blk w bx (refPL s rv fr hv dv) 37
  rf : RfP w N nd s rv fr n hv dv H T
  le : N ≤ w.heap.size
theorem HB.same (h : HB w bx N nd s rv fr n hv dv H T) (hk : Kept (fun _ => False) w w') : HB w' bx N nd s rv fr n hv dv H T := ⟨hk.blk h.blk (fun h => h), h.rf.kept hk, Nat.le_trans h.le hk.size⟩
theorem HB.keptT (h : HB w bx N nd s rv fr n hv dv H T) (hk : KeptT w w') (hs : w.heap.size ≤ w'.heap.size) : HB w' bx N nd s rv fr n hv dv H T :=
  ⟨hk _ _ _ (by decide) (by decide) (by decide) (by decide) (by decide) (by decide) h.blk, h.rf.keptT hk, Nat.le_trans h.le hs⟩
theorem HB.keptZ (h : HB w bx 0 nd s rv fr n hv dv H T) (hk : KeptT w w') : HB w' bx 0 nd s rv fr n hv dv H T :=
  ⟨hk _ _ _ (by decide) (by decide) (by decide) (by decide) (by decide) (by decide) h.blk, h.rf.keptT hk, Nat.zero_le _⟩
theorem RfP.zero (h : RfP w N nd s rv fr n hv dv H T) : RfP w 0 nd s rv fr n hv dv H T := { h with hh := h.hh.mono (Nat.zero_le _), hd := h.hd.mono (Nat.zero_le _) }
theorem HB.store (h : HB w bx N nd s rv fr n hv dv H T) (hr : RfP w N nd s' rv' fr n hv' dv' H' T') (hb : Blk w' bx (refPL s' rv' fr hv' dv') 37) (hk : Kept (fun j => j = bx) w w') : HB w' bx N nd s' rv' fr n hv' dv' H' T' :=
  ⟨hb, hr.keptX h.blk hk, Nat.le_trans h.le hk.size⟩
/-- What the numbers keep to. -/
structure Bnd (s : D.DS) (l : PL) (k : Nat) : Prop where
  c : s.calls ≤ 2000 * k
  w : s.ws.length ≤ 2000 * k
  h : l.hand.length ≤ 20 * k
  d : l.dirty.length ≤ 20 * k
/-- What stands at the head of a round. -/
structure LSt (W w : World) (db b bx fr n k : Nat) (s : D.DS) (l : PL) (rv hv dv : Value) (H : List (List Nat)) (T : List Bool) (N : Nat) : Prop where
  pw : Pw W w db 20 s b l
  hb : HB w bx N 20 s rv fr n hv dv H T
  rel : PrRel l H T
  lf : l.fr = fr
  ln : l.n = n
  ge : W.heap.size ≤ bx
  bd : Bnd s l k
theorem LSt.same (h : LSt W w db b bx fr n k s l rv hv dv H T N) (hk : Kept (fun _ => False) w w') : LSt W w' db b bx fr n k s l rv hv dv H T N :=
  { h with pw := h.pw.same hk, hb := h.hb.same hk }
/-- The law's variable is stored anew, behind a call of the document's. -/
theorem LSt.store (h : LSt W w db b bx fr n k s l rv hv dv H T N) (hr : RfP w N 20 s' rv' fr n hv' dv' H' T') (hb : Blk w' bx (refPL s' rv' fr hv' dv') 37) (hk : Kept (fun j => j = bx) w w') : Pw W w' db 20 s b l ∧ HB w' bx N 20 s' rv' fr n hv' dv' H' T' :=
  ⟨h.pw.keptX h.hb.blk hk h.ge, h.hb.store hr hb hk⟩
theorem Bnd.put (h : Bnd s l k) (ws : List Wr) (hw : ws.length ≤ 20) : Bnd s (l.putE ws) (k + 1) := by
  obtain ⟨h1, h2⟩ := putE_len l ws
  exact ⟨by have := h.c; omega, by have := h.w; omega, by have := h.h; omega, by have := h.d; omega⟩
theorem Bnd.same (h : Bnd s l k) : Bnd s l (k + 1) := ⟨by have := h.c; omega, by have := h.w; omega, by have := h.h; omega, by have := h.d; omega⟩
theorem Bnd.drop (h : Bnd s l k) : Bnd s ⟨l.fr, l.n, [], []⟩ (k + 1) := ⟨by have := h.c; omega, by have := h.w; omega, by simp, by simp⟩
theorem Bnd.crash (h : Bnd s l k) (ks : List Bool) : Bnd (s.crashed ks) l (k + 1) := ⟨by have := h.c; show s.calls ≤ _; omega, by simp [D.DS.crashed], by have := h.h; omega, by have := h.d; omega⟩
theorem Bnd.limit (h : Bnd s l k) (m : Int) : Bnd { s with left := m } l (k + 1) := ⟨by have := h.c; show s.calls ≤ _; omega, by have := h.w; show s.ws.length ≤ _; omega, by have := h.h; omega, by have := h.d; omega⟩
theorem flushed_ws (s : D.DS) : s.flushed.ws.length ≤ s.ws.length := by
  unfold D.DS.flushed
  split
  · exact Nat.le_refl _
  · split
    · rw [(D.DS.spent_ws s).1]; exact Nat.le_refl _
    · simp
theorem Bnd.save (h : Bnd s l k) (hk : k ≤ 49) : Bnd (l.saveD s) (l.saveP s) (k + 1) := by
  obtain ⟨b1, b2⟩ := runW_bound l.fr l.dirty s
  have h1 := h.c
  have h2 := h.w
  have h3 := h.h
  have h4 := h.d
  have e1 : (l.saveD s).calls ≤ s.calls + l.dirty.length + 1 ∧ (l.saveD s).ws.length ≤ s.ws.length + l.dirty.length := by
    unfold PL.saveD
    split
    · have f1 := flushed_calls (runW l.fr l.dirty s).1
      have f2 := flushed_ws (runW l.fr l.dirty s).1
      omega
    · omega
  refine ⟨by omega, by omega, ?_, ?_⟩
  · unfold PL.saveP
    split
    · show l.hand.length ≤ _; omega
    · omega
  · unfold PL.saveP
    split
    · simp
    · omega
theorem saveP_fr (l : PL) (s : D.DS) : (l.saveP s).fr = l.fr ∧ (l.saveP s).n = l.n := by
  unfold PL.saveP
  split <;> exact ⟨rfl, rfl⟩
end
section
variable {W w w' : World} {db nd b : Nat} {s : D.DS} {l : PL}
theorem Pw.getI (h : Pw W w db nd s b l) {H : List (List Nat)} {T : List Bool} (hr : PrRel l H T) (k : Int) (hl : l.hand.length ≤ 1000000) : Calls Try.prog 11 #[.pointer (some ⟨b, 0, none⟩), .int .i64 k] w fun e w' => ∃ sl : Sl, e = .returned (.tuple #[.slice sl.a sl.n sl.c, .int .i64 (rgE s H k)]) ∧ Src w' sl.v (rgV s l.fr H k) ∧ Pw W w' db nd s b l ∧ Kept (fun _ => False) w w' := by
  rw [hr.getE, hr.getV]
  by_cases hk : 0 ≤ k ∧ k < l.n
  · rw [if_pos hk, if_pos hk]
    obtain ⟨m, rfl⟩ : ∃ m : Nat, k = m := ⟨k.toNat, by omega⟩
    rw [Int.toNat_natCast]
    exact h.get m (by omega) hl
  · rw [if_neg hk, if_neg hk]
    obtain ⟨F, X, hp, hb⟩ := h.pd
    refine (poolget_no w b db l X hp.pool k hk).mono ?_
    rintro e w' ⟨rfl, rfl⟩
    exact ⟨⟨none, 0, 0⟩, rfl, Src.nil _, h, Kept.refl _ _⟩
theorem Pw.crashK (h : Pw W w db nd s b l) (kv : Value) (ks : List Bool) (hk : D.keepIs W kv ks (fun k => W.heap.size ≤ k)) : Calls Try.prog 24 #[.pointer (some ⟨db, 0, none⟩), kv] w fun e w' => e = .returned (.tuple #[]) ∧ Pw W w' db nd (s.crashed ks) b l ∧ KeptT w w' := by
  obtain ⟨F, X, hp, hb⟩ := h.pd
  refine (D.crash_at w db nd s F hp.dev kv ks (keepIs_mono (D.keepIs.kept hk h.kept (fun _ _ h => h.elim)) (fun k hf => hb k (.inl hf)))).mono ?_
  rintro e w' ⟨rfl, hs⟩
  exact ⟨rfl, h.step hp hb (hp.ofD hs)⟩
theorem Pw.limit (h : Pw W w db nd s b l) (m : Int) (hm : m ≤ 9223372036854775807) : Calls Try.prog 25 #[.pointer (some ⟨db, 0, none⟩), .int .i64 m] w fun e w' => e = .returned (.tuple #[]) ∧ Pw W w' db nd { s with left := max m (-1) } b l ∧ KeptT w w' := by
  obtain ⟨F, X, hp, hb⟩ := h.pd
  refine (D.limit_at w db nd s F hp.dev m hm).mono ?_
  rintro e w' ⟨rfl, hs⟩
  exact ⟨rfl, h.step hp hb (hp.ofD hs)⟩
/-- Image of the document's kind. -/
def piE (l : PL) (s : D.DS) : Int := l.imgE s
def piV (l : PL) (s : D.DS) : List Nat := if l.imgE s = 0 then l.imgK s l.n else []
theorem Pw.imageD (h : Pw W w db nd s b l) (hn : 1 ≤ l.n ∧ l.n ≤ 64) (hl : l.hand.length ≤ 1000000) : Calls Try.prog 12 #[.pointer (some ⟨b, 0, none⟩)] w fun e w' => ∃ d m, e = .returned (.tuple #[d, .int .i64 (piE l s)]) ∧ Pw W w' db nd s b l ∧ Kept (fun _ => False) w w' ∧ DkAt w' d m (piV l s) := by
  refine (h.image hn hl).mono ?_
  rintro e w' ⟨d, rfl, h1, h2, h3, h4⟩
  unfold piE piV
  by_cases h0 : l.imgE s = 0
  · rw [if_pos h0]
    exact ⟨d, _, rfl, h1, h2, h3 h0⟩
  · rw [if_neg h0]
    exact ⟨d, 0, rfl, h1, h2, .inl ⟨rfl, rfl, h4 h0⟩⟩
end
theorem PrRel.piV {l : PL} {H : List (List Nat)} {T : List Bool} (h : PrRel l H T) (s : D.DS) : (if rAll s H l.n then rImg s l.fr H l.n else []) = piV l s := by
  unfold Go.Proofs.Ytnlcmgdeohbmoaa.piV
  rw [h.all, h.img]
  by_cases h0 : l.imgE s = 0
  · rw [if_pos h0, h0]; rfl
  · rw [if_neg h0, if_neg (by simpa using h0)]
section
variable {ρ : Operand → Value} {w : World} {dst : Option Tmp} {ty : TypeId} {pos : String} {aft : Array Edge} {gd : Option (Nat × Bool)} {x y z : Operand}
theorem r_rem7 {v q : Int} (hx : ρ x = .int .u64 v) (hy : ρ y = .int .u64 7) (h0 : 0 ≤ v) (hq : v % 7 = q) :
    (execOp ρ ⟨dst, .binOp .rem 54 x y 54, ty, pos, aft, gd⟩).run Try.prog w = .ok (.value (.int .u64 q)) w := by
  have ht : v.tmod 7 = q := by rw [Int.tmod_eq_emod_of_nonneg h0]; exact hq
  go_simp
end
end Go.Proofs.Ytnlcmgdeohbmoaa

/-
  PoolPlays where New refuses.
-/
namespace Go.Proofs.Ytnlcmgdeohbmoaa
open Go.RowKit Go.Shelf
set_option linter.unusedSimpArgs false
set_option linter.unusedVariables false
set_option maxRecDepth 100000

theorem newE_cases (nd : Nat) (fr n : Int) : newE nd fr n = 0 ∨ newE nd fr n = 2 ∨ newE nd fr n = 11 := by
  unfold newE
  split
  · exact .inr (.inl rfl)
  · split
    · exact .inr (.inr rfl)
    · exact .inl rfl
theorem dok_new {nd : Nat} (h2 : nd ≤ 4096) : DOk (D.DS.new nd) nd := by
  refine ⟨h2, ?_, ?_, by simp [D.DS.new], by simp [D.DS.new], by simp [D.DS.new]⟩
  · simp [D.DS.new]; omega
  · intro v hv
    rw [List.eq_of_mem_replicate hv]
    exact ⟨0, rfl, by decide, by decide⟩
set_option maxHeartbeats 4000000 in
theorem pplays_no (W : World) (fr n : Int) (hfr : fr ≤ 9223372036854775807) (v : Value) (h : newE 20 fr n ≠ 0) : Calls Try.prog 3 #[.int .i64 fr, .int .i64 n, v] W fun e w' => e = .returned (.bool true) ∧ Kept (fun _ => False) W w' := by
  have HNe := hide h
  have HFr := hide hfr
  have hec := (newE_cases 20 fr n).resolve_left h
  obtain ⟨i0, hi0, hz0, hs0, hb0⟩ := info_parts Try.info37
  have Hi0 := hide hi0
  have Hz0 := hide hz0
  clear h hfr hi0 hz0 hs0 hb0
  go_enter Try.func3, Try.ntmps3
  go_wp2_with fail
  refine (first_at W).mono ?_
  rintro e w1 ⟨rfl, hk1⟩
  have HK1 := hide hk1
  clear hk1
  go_wp2_with fail
  refine (dnew_at w1 20 (by decide) (by decide)).mono ?_
  rintro e w2 ⟨db, F, rfl, hk2, hd2, hF2⟩
  have HK2 := hide (HK1.out.trans hk2 (fun _ _ h => h))
  have HD2 := hide hd2
  clear hk2 hd2 hF2 HK1
  go_wp2_with fail
  refine (poolnew_err w2 db 20 _ F HD2.out fr n HFr.out HNe.out).mono ?_
  rintro e w3 ⟨rfl, rfl⟩
  go_wp2_with fail
  refine (D.refNew_any w2 20 (by decide)).mono ?_
  rintro e w4 ⟨rfl, hk4⟩
  have HK4 := hide (HK2.out.trans hk4 (fun _ _ h => h))
  clear hk4 HK2
  go_wp2_with fail
  refine (rpnew_err w4 (D.DS.new 20) 20 (dok_new (by decide)) none 0 0 fr n HNe.out).mono ?_
  rintro e w5 ⟨rfl, hk5⟩
  have HK5 := hide (HK4.out.trans hk5 (fun _ _ h => h))
  clear hk5 HK4
  obtain ⟨E, hE⟩ : ∃ E, newE 20 fr n = E := ⟨_, rfl⟩
  rw [hE] at hec ⊢
  clear hE HNe
  have HZ1 := hide zeroPL_one
  go_wp2_with (first
    | ((with_reducible refine aw_alloc (t := 37) Hi0.out Hz0.out ?_); intro w6 hw6 hk6 hz6; have HK6 := hide (HK5.out.trans hk6 (fun _ _ h => h)); have HW6 := hide hw6; have HZ6 := hide hz6; clear hw6 hk6 hz6)
    | (with_reducible refine stop_store 37 ?_)
    | fail)
  refine hide ?_
  refine aw_store (M := zeroPL) Try.agg37 rfl rfl rfl HZ1.out HW6.out (by rw [zero37]; decide) ?_
  intro w7 hw7 hk7 hz7
  have HK7 : Hid (Kept (fun _ => False) W w7) := hide (HK6.out.trans hk7 (fun i hi e => by have := HK5.out.size; omega))
  clear hw7 hk7 hz7
  try simp only [put_lit, put_none, List.set_cons_succ, List.set_cons_zero]
  rcases hec with rfl | rfl
  all_goals
    go_wp2_with fail
    refine (poolnew_nil w7 0 1).mono ?_
    rintro e w8 ⟨rfl, rfl⟩
    go_wp2_with fail
    refine (poolget_nil w7 0).mono ?_
    rintro e w8 ⟨rfl, rfl⟩
    go_wp2_with fail
    refine (pimage_nil w7).mono ?_
    rintro e w8 ⟨rfl, rfl⟩
    go_wp2_with fail
    refine (drop_nil w7).mono ?_
    rintro e w8 ⟨rfl, rfl⟩
    go_wp2_with fail
    refine (poolput_nil w7 _).mono ?_
    rintro e w8 ⟨rfl, rfl⟩
    go_wp2_with fail
    refine (poolsave_nil w7).mono ?_
    rintro e w8 ⟨rfl, hk8⟩
    have HK8 := hide (HK7.out.trans hk8 (fun _ _ h => h))
    clear hk8
    go_wp2_with fail
    refine (dirty_nil w8).mono ?_
    rintro e w9 ⟨rfl, rfl⟩
    go_wp2
    go_ret
    exact ⟨rfl, HK8.out⟩
end Go.Proofs.Ytnlcmgdeohbmoaa
