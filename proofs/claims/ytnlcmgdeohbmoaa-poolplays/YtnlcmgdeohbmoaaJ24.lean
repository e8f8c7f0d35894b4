/-
  (*Dev).Write where it is refused.
-/
import Derived.Test.YtnlcmgdeohbmoaaJ23
namespace Go.Proofs.Ytnlcmgdeohbmoaa.D
open Go.RowKit Go.Shelf
set_option linter.unusedSimpArgs false
set_option linter.unusedVariables false
set_option maxRecDepth 100000

/-- The bytes B, as a slice that lies outside S. -/
def srcIs (w : World) (v : Value) (B : List Value) (S : Nat → Prop) : Prop :=
  ∃ ao cap, v = .slice ao B.length cap ∧ B.length ≤ cap ∧ cap ≤ maxLen ∧ (∀ x ∈ B, isByte x) ∧ (0 < B.length → ∃ sb so, ao = some ⟨sb, so, none⟩ ∧ Cells w sb so B ∧ ¬ S sb)

theorem _root_.Go.Proofs.Ytnlcmgdeohbmoaa.Cells.lt {w : World} {b so : Nat} {M : List Value} (h : Cells w b so M) (h0 : 0 < M.length) : b < w.heap.size :=
  World.block_lt_of_cell? w _ (h 0 _ (List.getElem?_eq_getElem h0))

theorem srcIs.kept {w w' : World} {v : Value} {B : List Value} {S T : Nat → Prop} (h : srcIs w v B S) (hk : Kept T w w') (hT : ∀ k, k < w.heap.size → T k → S k) : srcIs w' v B S := by
  obtain ⟨ao, cap, h1, h2, h3, h4, h5⟩ := h
  refine ⟨ao, cap, h1, h2, h3, h4, fun h0 => ?_⟩
  obtain ⟨sb, so, e1, e2, e3⟩ := h5 h0
  exact ⟨sb, so, e1, hk.cells e2 (fun t => e3 (hT sb (e2.lt h0) t)), e3⟩

/-- What a refused Write answers. -/
def DS.errW (n : Nat) (s : DS) (a : Int) (B : List Value) : Int :=
  if s.off then 10 else if B.length % 64 ≠ 0 then 2 else if hasB n a ((B.length / 64 : Nat) : Int) then s.errS else 11

theorem _root_.Go.Proofs.Ytnlcmgdeohbmoaa.Kept.alloc2 (S : Nat → Prop) (w : World) (o o' : Obj) : Kept S w ((w.alloc o).alloc o') := (Kept.alloc S w o).trans (Kept.alloc S _ o') (fun _ _ h => h)

set_option maxHeartbeats 1000000 in
theorem write_off (w : World) (b n : Nat) (s : DS) (F : Nat → Prop) (h : DevAt w b n s F) (a : Int) (v : Value) (ho : s.off = true) :
    Calls Try.prog 36 #[.pointer (some ⟨b, 0, none⟩), .int .i64 a, v] w fun e w' => e = .returned (.int .i64 10) ∧ DevStep w w' b n s F := by
  have hd2 := h.kept (w' := (w.alloc (.cells #[.pointer (some ⟨b, 0, none⟩)] 24)).alloc (.cells #[.int .i64 a] 3)) (Kept.alloc2 (fun _ => False) w _ _) (fun _ _ h => h)
  have hd3 := hd2
  obtain ⟨bs, wv, hd, hf⟩ := hd2
  have HR := hide (ready_at _ b bs n wv s hd)
  have HO := hide ho
  have HD := hide hd3
  clear hd hf ho hd3
  go_enter Try.func36, Try.ntmps36
  go_wp2_with (go_at_call 50; refine HR.out.mono ?_; rintro e w' ⟨rfl, rfl⟩; rw [HO.out]; simp only [if_true])
  go_ret
  exact ⟨rfl, Kept.alloc2 F w _ _, F, HD.out, fun _ h => .inl h⟩

set_option maxHeartbeats 1000000 in
theorem write_arg (w : World) (b n : Nat) (s : DS) (F : Nat → Prop) (h : DevAt w b n s F) (a : Int) (ao : Option Addr) (len cap : Nat) (hl : len ≤ 9223372036854775807) (ho : s.off = false) (hm : len % 64 ≠ 0) :
    Calls Try.prog 36 #[.pointer (some ⟨b, 0, none⟩), .int .i64 a, .slice ao len cap] w fun e w' => e = .returned (.int .i64 2) ∧ DevStep w w' b n s F := by
  have hd2 := h.kept (w' := (w.alloc (.cells #[.pointer (some ⟨b, 0, none⟩)] 24)).alloc (.cells #[.int .i64 a] 3)) (Kept.alloc2 (fun _ => False) w _ _) (fun _ _ h => h)
  have hd3 := hd2
  obtain ⟨bs, wv, hd, hf⟩ := hd2
  have HR := hide (ready_at _ b bs n wv s hd)
  have HO := hide ho
  have HD := hide hd3
  have hmi : ((len : Int) % 64 != 0) = true := by rw [bne_iff_ne]; omega
  clear hd hf ho hd3 hm
  go_enter Try.func36, Try.ntmps36
  go_wp2_with (go_at_call 50; refine HR.out.mono ?_; rintro e w' ⟨rfl, rfl⟩; rw [HO.out]; simp only [Bool.false_eq_true, if_false])
  go_ret
  exact ⟨rfl, Kept.alloc2 F w _ _, F, HD.out, fun _ h => .inl h⟩

set_option maxHeartbeats 1000000 in
theorem write_range (w : World) (b n : Nat) (s : DS) (F : Nat → Prop) (h : DevAt w b n s F) (a : Int) (ha : a ≤ 9223372036854775807) (ao : Option Addr) (m cap : Nat) (hl : 64 * m ≤ 9223372036854775807) (ho : s.off = false) (hh : hasB n a m = false) :
    Calls Try.prog 36 #[.pointer (some ⟨b, 0, none⟩), .int .i64 a, .slice ao (64 * m) cap] w fun e w' => e = .returned (.int .i64 11) ∧ DevStep w w' b n s F := by
  have hd2 := h.kept (w' := (w.alloc (.cells #[.pointer (some ⟨b, 0, none⟩)] 24)).alloc (.cells #[.int .i64 a] 3)) (Kept.alloc2 (fun _ => False) w _ _) (fun _ _ h => h)
  have hd3 := hd2
  obtain ⟨bs, wv, hd, hf⟩ := hd2
  have HR := hide (ready_at _ b bs n wv s hd)
  have HH := hide (has_at _ b bs n wv s hd a m ha)
  have HO := hide ho
  have HN := hide hh
  have HD := hide hd3
  have hmi : (((64 * m : Nat) : Int) % 64 != 0) = false := by rw [bne_eq_false_iff_eq]; omega
  have hmq : ((64 * m : Nat) : Int) / 64 = (m : Int) := by omega
  clear hd hf ho hd3 hh
  go_enter Try.func36, Try.ntmps36
  go_wp2_with (first
    | (go_at_call 50; refine HR.out.mono ?_; rintro e w' ⟨rfl, rfl⟩; rw [HO.out]; simp only [Bool.false_eq_true, if_false])
    | (go_at_call 51; refine HH.out.mono ?_; rintro e w' ⟨rfl, rfl⟩; rw [HN.out]))
  go_ret
  exact ⟨rfl, Kept.alloc2 F w _ _, F, HD.out, fun _ h => .inl h⟩

set_option maxHeartbeats 1000000 in
theorem write_limit (w : World) (b n : Nat) (s : DS) (F : Nat → Prop) (h : DevAt w b n s F) (a : Int) (ha : a ≤ 9223372036854775807) (ao : Option Addr) (m cap : Nat) (hl : 64 * m ≤ 9223372036854775807) (ho : s.off = false) (hh : hasB n a m = true) (hz : s.left = 0) (hc : s.calls < 4611686018427387904) :
    Calls Try.prog 36 #[.pointer (some ⟨b, 0, none⟩), .int .i64 a, .slice ao (64 * m) cap] w fun e w' => e = .returned (.int .i64 10) ∧ DevStep w w' b n s.spent F := by
  have hd2 := h.kept (w' := (w.alloc (.cells #[.pointer (some ⟨b, 0, none⟩)] 24)).alloc (.cells #[.int .i64 a] 3)) (Kept.alloc2 (fun _ => False) w _ _) (fun _ _ h => h)
  obtain ⟨bs, wv, hd, hf⟩ := hd2
  have HR := hide (ready_at _ b bs n wv s hd)
  have HH := hide (has_at _ b bs n wv s hd a m ha)
  have HSp := hide (spend_at _ b bs n wv s hd hc)
  have HE2 : Hid (s.errS = 10) := hide (by simp [DS.errS, hz])
  have HO := hide ho
  have HN := hide hh
  have HF := hide hf
  have hmi : (((64 * m : Nat) : Int) % 64 != 0) = false := by rw [bne_eq_false_iff_eq]; omega
  have hmq : ((64 * m : Nat) : Int) / 64 = (m : Int) := by omega
  clear hd hf ho hh hz
  go_enter Try.func36, Try.ntmps36
  go_wp2_with (first
    | (go_at_call 50; refine HR.out.mono ?_; rintro e w' ⟨rfl, rfl⟩; rw [HO.out]; simp only [Bool.false_eq_true, if_false])
    | (go_at_call 51; refine HH.out.mono ?_; rintro e w' ⟨rfl, rfl⟩; rw [HN.out])
    | (go_at_call 59; refine HSp.out.mono ?_; rintro e w1 ⟨rfl, hk1, hd1⟩; rw [HE2.out]))
  go_ret
  refine ⟨rfl, (Kept.alloc2 F w _ _).trans hk1 (fun k _ e => (HF.out k).2 (.inl e)), foot b bs wv, ⟨bs, wv, hd1, fun _ => Iff.rfl⟩, fun k hk => .inl ((HF.out k).2 hk)⟩

end Go.Proofs.Ytnlcmgdeohbmoaa.D

/-
  (*Dev).Write where it is done: its sectors wait, from the first one on.
-/
namespace Go.Proofs.Ytnlcmgdeohbmoaa.D
open Go.RowKit Go.Shelf
set_option linter.unusedSimpArgs false
set_option linter.unusedVariables false
set_option maxRecDepth 100000

attribute [local go_sem] Oper.semAt_some

/-- The sectors of B, as they wait from a on. -/
def secs (a : Nat) (B : List Value) (m : Nat) : List (Nat × List Value) := (List.range m).map fun k => (a + k, sec B k)
def secsF (a : Nat) (B : List Value) {m : Nat} (pre : List (Fin m)) : List (Nat × List Value) := pre.map fun x => (a + x.1, sec B x.1)

theorem secsF_all (a : Nat) (B : List Value) (m : Nat) : secsF a B (List.finRange m) = secs a B m := by
  unfold secsF secs
  apply List.ext_getElem
  · simp
  · intro i h1 h2
    simp

def DS.written (s : DS) (a : Nat) (B : List Value) (m : Nat) : DS := { s.spent with ws := s.ws ++ secs a B m }

set_option maxHeartbeats 400000 in
theorem split_any (w : World) (ao : Option Addr) (len cap : Nat) :
    Calls Try.prog 60 #[.slice ao len cap] w fun e w' => e = .returned (.func (.func 74) #[] #[.pointer (some ⟨w.heap.size, 0, none⟩)]) ∧ w' = w.alloc (.cells #[.slice ao len cap] 41) := by
  go_enter Try.func60, Try.ntmps60
  go_wp2
  go_ret
  exact ⟨rfl, rfl⟩

theorem DevIs.cells {w : World} {b bs n : Nat} {wv : Value} {s : DS} (h : DevIs w b bs wv n s) : ∀ k, foot b bs wv k → ∃ c t f, w.heap[k]? = some (.cells c t f) := by
  rintro k (rfl | rfl | e)
  · exact ⟨_, _, _, h.hb⟩
  · exact ⟨_, _, _, h.hs⟩
  · rcases h.hw.2 with ⟨rfl, _⟩ | ⟨g, cap, cur, rfl, _, hg, _⟩
    · simp [Value.ownBlock] at e
    · simp [Value.ownBlock] at e; subst e; exact ⟨_, _, _, hg⟩

/-- The loop's invariant. -/
def WInv (w0 : World) (F : Nat → Prop) (b bs n : Nat) (s : DS) (a : Nat) (B : List Value) {m : Nat} (pre : List (Fin m)) (W : World) : Prop :=
  ∃ wv, DevIs W b bs wv n { s with ws := s.ws ++ secsF a B pre } ∧ (∀ k, wv.ownBlock = some k → F k ∨ w0.heap.size ≤ k) ∧ Kept F w0 W

theorem WInv.own (w0 : World) (F : Nat → Prop) (b bs n : Nat) (s : DS) (a : Nat) (B : List Value) (m : Nat) : OwnFrom w0.heap.size (fun (pre : List (Fin m)) W => WInv w0 F b bs n s a B pre W) := by
  rintro pre W W' row ⟨wv, hd, hw, hk⟩ hg hr
  have hk2 := Kept.of_grown hg
  refine ⟨wv, hd.kept hk2 ?_, hw, hk.trans hk2 ?_⟩
  · intro k hf e
    obtain ⟨c, t, f, h1⟩ := hd.cells k hf
    obtain ⟨_, o, h2, h3⟩ := hr k e
    rw [h1] at h2
    cases h2
    simp [Obj.isCells] at h3
  · intro i hi e
    have := (hr i e).1
    omega

/-- What the loop's variables hold. -/
def WVars (n₀ D3 D4 : Nat) (B : List Value) {m : Nat} (x : Fin m) (a' : Act) (W : World) : Prop :=
  ∃ Bx, Blk W Bx (sec B x.1) 129 ∧ n₀ ≤ Bx ∧ a'.tmps.size = 50 ∧ a'.eval (.tmp 3) = .pointer (some ⟨D3, 0, none⟩) ∧ a'.eval (.tmp 4) = .pointer (some ⟨D4, 0, none⟩) ∧ a'.eval (.tmp 9) = .int .i64 (x.1 : Int) ∧ a'.eval (.tmp 10) = .pointer (some ⟨Bx, 0, none⟩)

theorem WVars.own (n₀ D3 D4 : Nat) (B : List Value) {m : Nat} (x : Fin m) (a' : Act) : OwnFrom n₀ (fun (_ : Unit) W => WVars n₀ D3 D4 B x a' W) := by
  rintro _ W W' row ⟨Bx, h1, h2⟩ hg hr
  refine ⟨Bx, (Kept.of_grown hg).blk h1 ?_, h2⟩
  intro e
  obtain ⟨_, o, h3, h4⟩ := hr Bx e
  unfold Blk at h1
  rw [h1] at h3
  cases h3
  simp [Obj.isCells] at h4

theorem keepsFrom_of_kept {B : Nat} {S : Nat → Prop} {W W' : World} (h : Kept S W W') (hc : ∀ k, S k → ∃ c t f, W.heap[k]? = some (.cells c t f)) : KeepsFrom B W W' := by
  refine ⟨h.size, fun k o _ hk ho => ?_⟩
  refine (h.block k (Array.getElem?_eq_some_iff.1 hk).1 ?_).trans hk
  intro hs
  obtain ⟨c, t, f, h1⟩ := hc k hs
  rw [h1] at hk
  cases hk
  simp [Obj.isCells] at ho

set_option maxRecDepth 100000 in
set_option maxHeartbeats 4000000 in
theorem write_ok (w : World) (b n : Nat) (s : DS) (F : Nat → Prop) (h : DevAt w b n s F) (a m cap : Nat) (ao : Option Addr) (B : List Value) (hB : B.length = 64 * m) (hBb : ∀ x ∈ B, isByte x) (hcap : 64 * m ≤ cap) (hsrc : 0 < m → ∃ sb so, ao = some ⟨sb, so, none⟩ ∧ Cells w sb so B ∧ ¬ F sb)
    (ham : a + m ≤ n) (ho : s.off = false) (hz : s.left ≠ 0) (hc : s.calls < 4611686018427387904) (hlen : s.ws.length + m < 1000000000) :
    Calls Try.prog 36 #[.pointer (some ⟨b, 0, none⟩), .int .i64 a, .slice ao (64 * m) cap] w fun e w' => e = .returned (.int .i64 0) ∧ DevStep w w' b n (s.written a B m) F := by
  have hka := Kept.alloc2 (fun _ => False) w (.cells #[.pointer (some ⟨b, 0, none⟩)] 24) (.cells #[.int .i64 a] 3)
  have hd2 := h.kept (w' := (w.alloc (.cells #[.pointer (some ⟨b, 0, none⟩)] 24)).alloc (.cells #[.int .i64 a] 3)) hka (fun _ _ h => h)
  have hFlt := h.lt
  obtain ⟨bs, wv, hd, hf⟩ := hd2
  have hn2 := hd.n2
  have HR := hide (ready_at _ b bs n wv s hd)
  have HH := hide (has_at _ b bs n wv s hd a m (by omega))
  have HSp := hide (spend_at _ b bs n wv s hd hc)
  have HE2 : Hid (s.errS = 0) := hide (by simp [DS.errS, hz])
  have HO := hide ho
  have HN := hide (hasB_nat n a m ham)
  have HF := hide hf
  have HSrc := hide hsrc
  have HKA := hide hka
  have HB := hide hB
  have HBb := hide hBb
  have HFlt := hide hFlt
  have hmi : (((64 * m : Nat) : Int) % 64 != 0) = false := by rw [bne_eq_false_iff_eq]; omega
  have hmq : ((64 * m : Nat) : Int) / 64 = (m : Int) := by omega
  have hb3 : Blk ((w.alloc (.cells #[.pointer (some ⟨b, 0, none⟩)] 24)).alloc (.cells #[.int .i64 a] 3)) w.heap.size [.pointer (some ⟨b, 0, none⟩)] 24 :=
    (Kept.alloc (fun _ => False) _ _).blk (Blk.newA w _ 24) (fun h => h)
  have hb4 : Blk ((w.alloc (.cells #[.pointer (some ⟨b, 0, none⟩)] 24)).alloc (.cells #[.int .i64 a] 3)) (w.heap.size + 1) [.int .i64 a] 3 := by
    have := Blk.newA (w.alloc (.cells #[.pointer (some ⟨b, 0, none⟩)] 24)) #[.int .i64 a] 3
    simpa using this
  clear hd hf ho hz hsrc hka hB hBb hFlt
  refine (callsIn_wide (n := 4)).1 (callsIn_of_wp_marks Try.func36 rfl trivial (wpIn_wide.2 ?_) rfl)
  simp only [Try.ntmps36, List.size_toArray, List.length_cons, List.length_nil, Nat.reduceAdd, Nat.reduceSub, Array.replicate_succ, Array.replicate_zero, List.push_toArray, List.append_toArray, List.nil_append, List.cons_append]
  go_wp2_with (first
    | (go_at_call 50; refine HR.out.mono ?_; rintro e w' ⟨rfl, rfl⟩; rw [HO.out]; simp only [Bool.false_eq_true, if_false])
    | (go_at_call 51; refine HH.out.mono ?_; rintro e w' ⟨rfl, rfl⟩; rw [HN.out])
    | (go_at_call 59; refine HSp.out.mono ?_; rintro e w1 ⟨rfl, hk1, hd1⟩; rw [HE2.out])
    | (go_at_call 60; refine (split_any w1 ao (64 * m) cap).mono ?_; rintro e w2 ⟨rfl, hw2⟩; have HW2 := hide hw2; clear hw2))
  have hbs1 : Blk w2 w1.heap.size [.slice ao (64 * m) cap] 41 := by rw [HW2.out]; exact Blk.newA w1 _ 41
  have hkw2 : Kept (fun _ => False) w1 w2 := by rw [HW2.out]; exact Kept.alloc _ w1 _
  have hsz2 : w2.heap.size = w1.heap.size + 1 := by rw [HW2.out]; simp
  have hd2 := hd1.kept hkw2 (fun _ _ h => h)
  have hFb : ∀ k, k = b → F k := fun k e => (HF.out k).2 (.inl e)
  have hkww1 : Kept F w w1 := (HKA.out.mono (T := F) (fun _ _ h => h.elim)).trans hk1 (fun k _ e => hFb k e)
  have hkww2 : Kept F w w2 := hkww1.trans hkw2 (fun _ _ h => h.elim)
  have hFlt1 : ∀ k, F k → k < w1.heap.size := fun k hk => Nat.lt_of_lt_of_le (HFlt.out k hk) hkww1.size
  have hsrc2 : 0 < m → ∃ sb so, ao = some ⟨sb, so, none⟩ ∧ Cells w2 sb so B ∧ sb < w2.heap.size ∧ ¬ F sb := by
    intro hm
    obtain ⟨sb, so, e1, e2, e3⟩ := HSrc.out hm
    have hc2 := hkww2.cells e2 e3
    exact ⟨sb, so, e1, hc2, hc2.lt (by rw [HB.out]; omega), e3⟩
  have hD3 : Blk w2 w.heap.size [.pointer (some ⟨b, 0, none⟩)] 24 := hkw2.blk (hk1.blk hb3 (fun e => by have := HFlt.out b (hFb b rfl); omega)) (fun h => h)
  have hD4 : Blk w2 (w.heap.size + 1) [.int .i64 a] 3 := hkw2.blk (hk1.blk hb4 (fun e => by have := HFlt.out b (hFb b rfl); omega)) (fun h => h)
  have hFD3 : ¬ F w.heap.size := fun hk => by have := HFlt.out _ hk; omega
  have hFD4 : ¬ F (w.heap.size + 1) := fun hk => by have := HFlt.out _ hk; omega
  refine (wpIn_wide (n := 4)).1 ?_
  refine wpIn_rangeFunc_ownH (F := Fence.wide) rfl (by decide) (gf := 74) (lb := #[.pointer (some ⟨w1.heap.size, 0, none⟩)]) rfl trivial (enters_of Try.func74 (by kernel_rfl) rfl)
    (encs := encS B m) (Kp := KpX w2.heap.size F) (S := fun xs => xs = List.finRange m) (Sp := fun _ => True) (N := m) (w0 := w2)
    (fun l J Jx W hW hJ _ hY h0 => ?seq) (fun h k => h.trans k) ?kb (Below.refl _ _) (fun _ => rfl)
    (fun pre W => WInv w2 F b bs n s.spent a B pre W) (fun _ _ _ => False) (WInv.own w2 F b bs n s.spent a B m) (fun _ _ _ _ _ h _ _ => h)
    ⟨wv, by simpa [secsF] using hd2, fun k e => .inl ((HF.out k).2 (.inr (.inr e))), Kept.refl _ _⟩
    (WVars w2.heap.size w.heap.size (w.heap.size + 1) B) (WVars.own _ _ _ B) ?assign ?body ?done ?stop
  case seq =>
    refine split1_in (4 - 1) l w1.heap.size w2.heap.size m cap ao B F HB.out HBb.out (by omega) hcap (by omega) (fun hk => by have := hFlt1 _ hk; omega) J Jx W hW.size hJ hY ?_ ?_ h0
    · exact (hW.block _ (by omega)).trans hbs1
    · intro hm
      obtain ⟨sb, so, e1, e2, e3, e4⟩ := hsrc2 hm
      exact ⟨sb, so, e1, fun j v hj => (hW.cell (p := ⟨sb, so + j, none⟩) e3).trans (e2 j v hj), e3, e4⟩
  case kb =>
    intro W l o o' hl _ _ _
    exact ⟨by simp, fun k hk _ => World.putObj_heap_other (fun e => by omega)⟩
  case assign =>
    intro l pre x W K hI hK
    obtain ⟨i70, hi70, hz70, hs70, hb70⟩ := info_parts Try.info129
    have Hi70 := hide hi70
    have Hz70 := hide hz70
    have hs64 := sec_length B m x.1 HB.out x.2
    have hsb := sec_byte B x.1 HBb.out
    have HL := hide hs64
    have HSb : Hid (∀ v ∈ sec B x.1, v.oneCell' = true) := hide (fun v hv => (hsb v hv).one)
    have HI := hide hI
    have HKK := hide hK
    clear hi70 hz70 hs70 hb70 hs64 hsb hI hK
    obtain ⟨M, hMe⟩ : ∃ M, M = sec B x.1 := ⟨_, rfl⟩
    simp only [encS]
    rw [← hMe] at HL HSb ⊢
    have HMe := hide hMe
    clear hMe
    gi_wp2_with (first
      | ((with_reducible refine ai_alloc Hi70.out Hz70.out ?_); intro w3 hw3 hk3 hz3; have Hz3 := hide hz3; clear hz3)
      | ((with_reducible refine ai_store Try.agg129 rfl rfl HL.out HSb.out hw3 (by simp [Value.cells]) ?_); intro w4 hw4 hk4 hz4; have Hz4 := hide hz4; clear hz4))
    have hkW : Kept (fun _ => False) W w4 := hk3.trans hk4 (fun i hi h => by omega)
    obtain ⟨wv', hd', hw', hk'⟩ := HI.out
    rw [put_whole _ _ (by rw [HL.out]; simp [Value.cells]), HMe.out] at hw4
    refine HKK.out _ w4 (keepsFrom_of_kept hkW (fun _ h => h.elim)) (KpX.of_kept hkW hk'.size (fun _ _ h => h.elim)) ⟨wv', hd'.kept hkW (fun _ _ h => h), hw', hk'.trans hkW (fun _ _ h => h.elim)⟩ ⟨W.heap.size, hw4, hk'.size, ?_, ?_, ?_, ?_, ?_⟩
    · rw [size_put, size_put]; rfl
    all_goals rfl
  case body =>
    rintro l pre x a' W hl ⟨r, hr⟩ hI hA hlt
    obtain ⟨wv', hd', hw', hk'⟩ := hI
    obtain ⟨Bx, hBx, hnx, hts, e3, e4, e9, e10⟩ := hA
    have hs64 := sec_length B m x.1 HB.out x.2
    have hsb := sec_byte B x.1 HBb.out
    obtain ⟨M, hMe⟩ : ∃ M, M = sec B x.1 := ⟨_, rfl⟩
    rw [← hMe] at hBx hs64 hsb
    have hD3W := hk'.blk hD3 hFD3
    have hD4W := hk'.blk hD4 hFD4
    obtain ⟨i70, hi70, hz70, hs70, hb70⟩ := info_parts Try.info129
    obtain ⟨i72, hi72, hz72, hs72, hb72⟩ := info_parts Try.info131
    have hq : a + x.1 < n := by have := x.2; omega
    have hwl : ({ s.spent with ws := s.spent.ws ++ secsF a B pre } : DS).ws.length < 1000000000 := by
      show (s.spent.ws ++ secsF a B pre).length < _
      rw [s.spent_ws.1]
      simp [secsF]
      omega
    refine wpIn_block ?_
    refine regionIn_held (S := fun U => U.cell? ⟨w.heap.size, 0, none⟩ = some (.pointer (some ⟨b, 0, none⟩)) ∧ U.cell? ⟨w.heap.size + 1, 0, none⟩ = some (.int .i64 a) ∧ Blk U Bx M 129) Try.mixed (fun ⟨_, _, h⟩ => h) (by kernel_rfl) ?_
    intro W0 hkW0 hheap
    have hd0 := hd'.kept hkW0 (fun _ _ h => h)
    obtain ⟨ao2, l2, c2, W2, hrun, hc1, hf1, hkW2, hszW2, hd3, hkW3, hown3⟩ := append_waits W0 b bs n wv' _ hd0 (a + x.1) M hs64 hsb hq hwl 70
    have hnf : ∀ k, ¬ F k → k < w2.heap.size → ¬ foot b bs wv' k := by
      rintro k hk hlt2 (rfl | rfl | e)
      · exact hk (hFb _ rfl)
      · exact hk ((HF.out _).2 (.inr (.inl rfl)))
      · rcases hw' k e with h | h
        · exact hk h
        · omega
    have hnB : ¬ foot b bs wv' Bx := by
      rintro (rfl | rfl | e)
      · have := HFlt.out _ (hFb _ rfl); have := hkww2.size; omega
      · have := HFlt.out _ ((HF.out _).2 (.inr (.inl rfl))); have := hkww2.size; omega
      · rcases hd'.hw.2 with ⟨rfl, _⟩ | ⟨g, cap', cur, rfl, _, hg, _⟩
        · simp [Value.ownBlock] at e
        · simp [Value.ownBlock] at e
          subst e
          have hgb : Blk W g cur.toList 131 := by unfold Blk; simpa using hg
          exact absurd rfl (hgb.ne hBx (by decide))
    have hl3 : w.heap.size < w2.heap.size := hD3.lt
    have hl4 : w.heap.size + 1 < w2.heap.size := hD4.lt
    have hST : ∀ U, Kept (foot b bs wv') W0 U → U.cell? ⟨w.heap.size, 0, none⟩ = some (.pointer (some ⟨b, 0, none⟩)) ∧ U.cell? ⟨w.heap.size + 1, 0, none⟩ = some (.int .i64 a) ∧ Blk U Bx M 129 := fun U hU =>
      ⟨(hU.blk (hkW0.blk hD3W (fun h => h)) (hnf _ hFD3 hl3)).cell 0, (hU.blk (hkW0.blk hD4W (fun h => h)) (hnf _ hFD4 hl4)).cell 0, hU.blk (hkW0.blk hBx (fun h => h)) hnB⟩
    have hS0 := hST W0 (Kept.refl _ _)
    have hS1 := hST (W0.alloc (.cells (.int .i64 ((a + x.1 : Nat) : Int) :: M).toArray 131)) (Kept.alloc _ W0 _)
    have hS2 := hST W2 hkW2
    have hS3 := hST _ hkW3
    have hbld : put (put ((Value.agg (Value.int .i64 0 :: List.replicate 64 (Value.int .u8 0)).toArray).cells.toList) 0 [.int .i64 ((a + x.1 : Nat) : Int)]) 1 M = .int .i64 ((a + x.1 : Nat) : Int) :: M := by
      simp [put, Value.cells, hs64]
    have hpl : ∀ (fields : Array Field), Try.prog.underlying 131 = some (.struct fields) → fields.toList.mapM (fun f => (Try.prog.info? f.type).map fun i => (f.offset, i.size)) = some [(0, 1), (1, 64)] := by
      intro fields hf
      rw [Try.underlying131] at hf
      cases hf
      kernel_rfl
    refine take_read 0 (v := (.pointer (some ⟨b, 0, none⟩))) rfl (by kernel_rfl) (by kernel_rfl) (by kernel_rfl) rfl (fun _ _ _ h => h) hS0 (fun U hU => r_load24 e3 hU.1) ?_
    refine take_read 1 (v := (.pointer (some ⟨b, 0, none⟩))) rfl (by kernel_rfl) (by kernel_rfl) (by kernel_rfl) rfl (fun _ _ _ h => h) hS0 (fun U hU => r_load24 (by simp [eval_put_ne, eval_put_eq, size_put, hts, e3]) hU.1) ?_
    refine take_read 2 (v := (.pointer (some ⟨b, 0, none⟩))) rfl (by kernel_rfl) (by kernel_rfl) (by kernel_rfl) rfl (fun _ _ _ h => h) hS0 (fun U hU => r_nilCheck (by simp [eval_put_ne, eval_put_eq, size_put, hts])) ?_
    refine take_read 3 (v := (.pointer (some ⟨b, 1, none⟩))) rfl (by kernel_rfl) (by kernel_rfl) (by kernel_rfl) rfl (fun _ _ _ h => h) hS0 (fun U hU => r_field1 (by simp [eval_put_ne, eval_put_eq, size_put, hts])) ?_
    refine take_read 5 (v := (.int .i64 a)) rfl (by kernel_rfl) (by kernel_rfl) (by kernel_rfl) rfl (fun _ _ _ h => h) hS0 (fun U hU => r_load3 (by simp [eval_put_ne, eval_put_eq, size_put, hts, e4]) hU.2.1) ?_
    refine take_read 6 (v := (.int .i64 (x.1 : Int))) rfl (by kernel_rfl) (by kernel_rfl) (by kernel_rfl) rfl (fun _ _ _ h => h) hS0 (fun U hU => r_move (by simp [eval_put_ne, eval_put_eq, size_put, hts, e9])) ?_
    refine take_read 7 (v := (.int .i64 ((a + x.1 : Nat) : Int))) rfl (by kernel_rfl) (by kernel_rfl) (by kernel_rfl) rfl (fun _ _ _ h => h) hS0 (fun U hU => r_add (i := a) (j := x.1) (by simp [eval_put_ne, eval_put_eq, size_put, hts]) (by simp [eval_put_ne, eval_put_eq, size_put, hts]) (by omega)) ?_
    refine take_read 8 (v := (.agg M.toArray)) rfl (by kernel_rfl) (by kernel_rfl) (by kernel_rfl) rfl (fun _ _ _ h => h) hS0 (fun U hU => (run_load_agg (off := 0) Try.agg129 (by simp [eval_put_ne, eval_put_eq, size_put, hts, e10]) hU.2.2 (by omega)).trans (by rw [List.drop_zero, List.take_of_length_le (by omega)])) ?_
    refine take_read 9 (v := .agg (.int .i64 ((a + x.1 : Nat) : Int) :: M).toArray) rfl (by kernel_rfl) (by kernel_rfl) (by kernel_rfl) rfl (fun _ _ _ h => h) hS0 (fun U hU => (run_build_two (v1 := .int .i64 ((a + x.1 : Nat) : Int)) (v2 := .agg M.toArray) (M1 := [.int .i64 ((a + x.1 : Nat) : Int)]) (M2 := M) hi72 hz72 Try.underlying131 (hpl _ Try.underlying131) (by simp [eval_put_ne, eval_put_eq, size_put, hts]) (by simp [eval_put_ne, eval_put_eq, size_put, hts]) rfl rfl rfl hs64.symm (by simp [Value.cells]) (by simp [Value.cells, hs64])).trans (by rw [hbld])) ?_
    refine wpAnyH_all (rs := [4, 10]) (by kernel_rfl) (by simp) ?_
    intro i hi
    simp at hi
    have hfin : KeepsFrom w2.heap.size W (W2.setCell ⟨b, 1, none⟩ (.slice ao2 l2 c2)) ∧ KpX w2.heap.size F W (W2.setCell ⟨b, 1, none⟩ (.slice ao2 l2 c2)) ∧ WInv w2 F b bs n s.spent a B (pre ++ [x]) (W2.setCell ⟨b, 1, none⟩ (.slice ao2 l2 c2)) := by
      have hkf : Kept (foot b bs wv') W (W2.setCell ⟨b, 1, none⟩ (.slice ao2 l2 c2)) := (hkW0.mono (T := foot b bs wv') (fun _ _ h => h.elim)).trans hkW3 (fun _ _ h => h)
      have hff : ∀ k, k < w2.heap.size → foot b bs wv' k → F k := by
        intro k hk hfk
        rcases hfk with rfl | rfl | e
        · exact hFb _ rfl
        · exact (HF.out _).2 (.inr (.inl rfl))
        · rcases hw' k e with h | h
          · exact h
          · omega
      refine ⟨keepsFrom_of_kept hkf hd'.cells, KpX.of_kept hkf hk'.size hff, .slice ao2 l2 c2, ?_, ?_, hk'.trans hkf hff⟩
      · have e : secsF a B (pre ++ [x]) = secsF a B pre ++ [(a + x.1, M)] := by rw [hMe]; simp [secsF]
        rw [e, ← List.append_assoc]
        exact hd3
      · intro k e
        rcases hown3 k e with h | h
        · exact hw' k h
        · exact .inr (Nat.le_trans hk'.size (Nat.le_trans hkW0.size h))
    rcases hi with rfl | rfl
    · refine op_value 4 (v := wv') rfl rfl (r_load59 (by simp [eval_put_ne, eval_put_eq, size_put, hts]) (hd0.hb.cell 1)) ⟨hS0, ?_⟩
      refine do_one 10 rfl (by kernel_rfl) rfl (run_buildSlice_one (M := .int .i64 ((a + x.1 : Nat) : Int) :: M) Try.underlying70 hi72 hz72 (by rw [hs72]; simp [hs64]) (by simp) (by simp [hs64]) (.inl (by simp [eval_put_ne, eval_put_eq, size_put, hts]))) hS1 ?_
      refine do_one 11 rfl (by kernel_rfl) rfl (r_append (by simp [eval_put_ne, eval_put_eq, size_put, hts]) (by simp [eval_put_ne, eval_put_eq, size_put, hts]) hrun) hS2 ?_
      refine do_one 12 (v := .pointer (some ⟨b, 0, none⟩)) rfl (by kernel_rfl) rfl (r_nilCheck (by simp [eval_put_ne, eval_put_eq, size_put, hts])) hS2 ?_
      refine do_one 13 (v := .pointer (some ⟨b, 1, none⟩)) rfl (by kernel_rfl) rfl (r_field1 (by simp [eval_put_ne, eval_put_eq, size_put, hts])) hS2 ?_
      refine do_one_skip 14 rfl (by kernel_rfl) rfl (r_store59 (by simp [eval_put_ne, eval_put_eq, size_put, hts]) (by simp [eval_put_ne, eval_put_eq, size_put, hts]) hc1 hf1) hS3 ?_
      exact wpAnyH_done (by kernel_rfl) hfin _
    · refine op_value 10 rfl rfl (run_buildSlice_one (M := .int .i64 ((a + x.1 : Nat) : Int) :: M) Try.underlying70 hi72 hz72 (by rw [hs72]; simp [hs64]) (by simp) (by simp [hs64]) (.inl (by simp [eval_put_ne, eval_put_eq, size_put, hts]))) ⟨hS1, ?_⟩
      refine do_one 4 (v := wv') rfl (by kernel_rfl) rfl (r_load59 (by simp [eval_put_ne, eval_put_eq, size_put, hts]) ((hd0.kept (Kept.alloc (fun _ => False) W0 _) (fun _ _ h => h)).hb.cell 1)) hS1 ?_
      refine do_one 11 rfl (by kernel_rfl) rfl (r_append (by simp [eval_put_ne, eval_put_eq, size_put, hts]) (by simp [eval_put_ne, eval_put_eq, size_put, hts]) hrun) hS2 ?_
      refine do_one 12 (v := .pointer (some ⟨b, 0, none⟩)) rfl (by kernel_rfl) rfl (r_nilCheck (by simp [eval_put_ne, eval_put_eq, size_put, hts])) hS2 ?_
      refine do_one 13 (v := .pointer (some ⟨b, 1, none⟩)) rfl (by kernel_rfl) rfl (r_field1 (by simp [eval_put_ne, eval_put_eq, size_put, hts])) hS2 ?_
      refine do_one_skip 14 rfl (by kernel_rfl) rfl (r_store59 (by simp [eval_put_ne, eval_put_eq, size_put, hts]) (by simp [eval_put_ne, eval_put_eq, size_put, hts]) hc1 hf1) hS3 ?_
      exact wpAnyH_done (by kernel_rfl) hfin _
  case done =>
    rintro D xs W hD rfl hI hK
    go_wp2
    have hI' := WInv.own w2 F b bs n s.spent a B m (List.finRange m) W (W.putObj D (.deferred none)) (some D) hI (grownBy_putObj' W D _) (fun r e => by cases e; exact ⟨hD, _, hK, rfl⟩)
    obtain ⟨wv', hd', hw', hk'⟩ := hI'
    refine ⟨by simp, .inl ⟨_, _, rfl, run_takeDeferred hK, ?_⟩⟩
    refine ⟨_, results_tmp rfl _ _ _, rfl, hkww2.trans hk' (fun _ _ h => h), foot b bs wv', ⟨bs, wv', ?_, fun _ => Iff.rfl⟩, ?_⟩
    · rw [secsF_all] at hd'
      have e : s.written a B m = { s.spent with ws := s.spent.ws ++ secs a B m } := by unfold DS.written; rw [s.spent_ws.1]
      rw [e]
      exact hd'
    · rintro k (rfl | rfl | e)
      · exact .inl (hFb _ rfl)
      · exact .inl ((HF.out _).2 (.inr (.inl rfl)))
      · rcases hw' k e with h | h
        · exact .inl h
        · exact .inr (Nat.le_trans hkww2.size h)
  case stop =>
    rintro D c pre W _ _ h _
    exact h.elim

end Go.Proofs.Ytnlcmgdeohbmoaa.D
