/-
  ControlCrash, walked.
-/
import Derived.Test.YtapoagpkjngjpaaCtDv
namespace Go.Proofs.Ytapoagpkjngjpaa
open Go.RowKit Go.Shelf
set_option linter.unusedSimpArgs false
set_option linter.unusedVariables false
set_option maxRecDepth 100000

theorem keepIs_apart {w0 w : World} {kv : Value} {ks : List Bool} {F : Nat → Prop} (h : D.keepIs w0 kv ks (fun _ => False)) (hk : Kept (fun _ => False) w0 w) (hF : ∀ k, F k → w0.heap.size ≤ k) : D.keepIs w kv ks F := by
  obtain ⟨ao, cap, h1, h2, h3⟩ := h
  refine ⟨ao, cap, h1, h2, fun i hi => ?_⟩
  obtain ⟨kb, ko, e1, e2, _⟩ := h3 i hi
  exact ⟨kb, ko, e1, hk.cell e2 (fun h => h), fun hf => by have := hF kb hf; have := World.block_lt_of_cell? w0 _ e2; simp at this; omega⟩
section
variable {w0 w : World} {b n : Nat} {s : D.DS} {G : List (Nat × List Value × TypeId)}
theorem Dv.crashK (h : D.Dv w0 w b n s G) {kv : Value} {ks : List Bool} (hk : D.keepIs w0 kv ks (fun _ => False)) :
    Calls Try.prog 16 #[.pointer (some ⟨b, 0, none⟩), kv] w fun e w' => e = .returned (.tuple #[]) ∧ D.Dv w0 w' b n (s.crashed ks) G := by
  obtain ⟨F, hd, hF, hG⟩ := h.dev
  refine (D.crash_at w b n s F hd kv ks (keepIs_apart hk h.kept hF)).mono ?_
  rintro e w' ⟨rfl, hs⟩
  exact ⟨rfl, h.stepF hF hG hs⟩
end
def okAB (A B : List Nat) : Prop := A.length = 64 ∧ B.length = 64 ∧ (∀ x ∈ A, x < 256) ∧ ∀ x ∈ B, x < 256
theorem q_cases {g : Int} {q : Nat} (h : g % 2 = q) : q = 0 ∨ q = 1 := by omega
theorem slots_one {c : Ct} (hc : rightC c = true) {q : Nat} (hq : c.gen % 2 = q) : ∃ A B, [z64, z64, z64].set q (putC c) = [A, B, z64] ∧ okAB A B ∧ resC (twoC A B) = (c, 0) := by
  rcases q_cases hq with rfl | rfl
  · refine ⟨putC c, z64, rfl, ⟨putC_length _, z64_ok.1, putC_lt _, z64_ok.2⟩, ?_⟩
    rw [twoC_0 hc hq (by rw [zeros_eq]; exact atMost_zeros _), resC_right hc]
  · refine ⟨z64, putC c, rfl, ⟨z64_ok.1, putC_length _, z64_ok.2, putC_lt _⟩, ?_⟩
    rw [twoC_1 hc hq (by rw [zeros_eq]; exact atMost_zeros _), resC_right hc]
theorem slots_two {c d : Ct} (hc : rightC c = true) (hd : rightC d = true) (hg : d.gen = c.gen + 1) {q q' : Nat} (hq : c.gen % 2 = q) (hq' : d.gen % 2 = q') : ∃ A B, ([z64, z64, z64].set q (putC c)).set q' (putC d) = [A, B, z64] ∧ okAB A B ∧ resC (twoC A B) = (d, 0) := by
  rcases q_cases hq with rfl | rfl
  · obtain rfl : q' = 1 := by omega
    refine ⟨putC c, putC d, rfl, ⟨putC_length _, putC_length _, putC_lt _, putC_lt _⟩, ?_⟩
    rw [twoC_1 hd hq' (atMost_put hc (by omega)), resC_right hd]
  · obtain rfl : q' = 0 := by omega
    refine ⟨putC d, putC c, rfl, ⟨putC_length _, putC_length _, putC_lt _, putC_lt _⟩, ?_⟩
    rw [twoC_0 hd hq' (atMost_put hc (by omega)), resC_right hd]
theorem set_64 {L : List (List Nat)} (h : ∀ x ∈ L, x.length = 64) (q : Nat) (c : Ct) : ∀ x ∈ L.set q (putC c), x.length = 64 := by
  intro x hx
  rcases List.mem_or_eq_of_mem_set hx with hx | rfl
  · exact h x hx
  · exact putC_length _
theorem zzz_64 : ∀ x ∈ [z64, z64, z64], x.length = 64 := by
  intro x hx
  simp only [List.mem_cons, List.not_mem_nil, or_false] at hx
  rcases hx with rfl | rfl | rfl <;> exact z64_ok.1
theorem new3 : D.DS.new 3 = ⟨BV [z64, z64, z64].flatten, [], 0, -1, false⟩ := new_lit 3
/-- The first Write. -/
theorem res1 {c : Ct} {q : Nat} (hq1 : q ≤ 1) : (if wErr (D.DS.new 3) ≠ 0 then (ct0, wErr (D.DS.new 3), wDev (D.DS.new 3) (0 + q) 1 (putC c)) else if (wDev (D.DS.new 3) (0 + q) 1 (putC c)).errF ≠ 0 then (ct0, (wDev (D.DS.new 3) (0 + q) 1 (putC c)).errF, (wDev (D.DS.new 3) (0 + q) 1 (putC c)).flushed) else (c, 0, (wDev (D.DS.new 3) (0 + q) 1 (putC c)).flushed)) = (c, (0 : Int), (⟨BV ([z64, z64, z64].set q (putC c)).flatten, [], 2, -1, false⟩ : D.DS)) := by
  rw [new3, wErr_lit, wDev_lit _ _ _ _ _ (by decide) _ (putC_length _), Nat.zero_add]
  rw [if_neg (by decide), List.nil_append, errF_lit, if_neg (by decide), flushed_lit zzz_64 (by simp; omega) (putC_length _) _ _ (by decide)]
  rfl
theorem resA (st : List Value) (ws : List (Nat × List Value)) (c : Nat) (l : Int) (hl : l = 0) (s1 : D.DS) (X : Ct × Int × D.DS) : (if wErr ⟨st, ws, c, l, false⟩ ≠ 0 then (ct0, wErr ⟨st, ws, c, l, false⟩, s1) else X) = (ct0, (10 : Int), s1) := by
  rw [wErr_lit, if_pos hl, if_pos (by decide)]
theorem resB (st st1 : List Value) (ws ws1 : List (Nat × List Value)) (c c1 : Nat) (l l1 : Int) (hl : l ≠ 0) (h1 : l1 = 0) (X Y : Ct × Int × D.DS) : (if wErr ⟨st, ws, c, l, false⟩ ≠ 0 then X else if (⟨st1, ws1, c1, l1, false⟩ : D.DS).errF ≠ 0 then (ct0, (⟨st1, ws1, c1, l1, false⟩ : D.DS).errF, (⟨st1, ws1, c1, l1, false⟩ : D.DS).flushed) else Y) = (ct0, (10 : Int), (⟨st1, ws1, c1, 0, true⟩ : D.DS)) := by
  subst h1
  rw [wErr_lit, if_neg hl, if_neg (by decide), errF_lit, if_pos rfl, if_pos (by decide), flushed_zero]
theorem resD (st st1 : List Value) (ws ws1 : List (Nat × List Value)) (c c1 : Nat) (l l1 : Int) (hl : l ≠ 0) (h1 : l1 ≠ 0) (X Y : Ct × Int × D.DS) (z : Ct) (s2 : D.DS) (h2 : (⟨st1, ws1, c1, l1, false⟩ : D.DS).flushed = s2) : (if wErr ⟨st, ws, c, l, false⟩ ≠ 0 then X else if (⟨st1, ws1, c1, l1, false⟩ : D.DS).errF ≠ 0 then Y else (z, 0, (⟨st1, ws1, c1, l1, false⟩ : D.DS).flushed)) = (z, (0 : Int), s2) := by
  rw [wErr_lit, if_neg hl, if_neg (by decide), errF_lit, if_neg h1, if_neg (by decide), h2]
/-- How the law's second half stands. -/
def KC (nx nz yv : Ct) (f : Int) (z : Ct) : Prop := ((f = 2 ∨ f = 33) ∧ z = nx) ∨ (f = 10 ∧ z = nx) ∨ (f = 10 ∧ z = nz) ∨ (f = 0 ∧ z = nz ∧ yv = nz)
theorem ctsecond {w0 w : World} {b : Nat} {G : List (Nat × List Value × TypeId)} {nx : Ct} (hx : rightC nx = true) {q : Nat} (hq : nx.gen % 2 = q) {cl : Nat} (hcl : cl < 4) (h : D.Dv w0 w b 3 ⟨BV ([z64, z64, z64].set q (putC nx)).flatten, [], 2, cl, false⟩ G) (d : Ct) (hd : d.gen = nx.gen) (ks : List Bool) (nz : Ct) (hnz : { d with gen := d.gen + 1 } = nz) :
    Calls Try.prog 14 #[.pointer (some ⟨b, 0, none⟩), .int .i64 0, ctAgg d] w fun e w' => ∃ yv f s2 z, e = .returned (.tuple #[ctAgg yv, .int .i64 f]) ∧ D.Dv w0 w' b 3 s2 G ∧ (∃ A B cc, s2.crashed ks = ⟨BV [A, B, z64].flatten, [], cc, -1, false⟩ ∧ okAB A B ∧ resC (twoC A B) = (z, 0)) ∧ KC nx nz yv f z := by
  have hi := (rightC_iff nx).1 hx
  have hq1 : q ≤ 1 := by omega
  obtain ⟨A1, B1, e1, o1, r1⟩ := slots_one hx hq
  by_cases hs : 2305843009213693952 ≤ d.gen
  · refine (Dv.ctspent h 0 d hs).mono ?_
    rintro e w' ⟨rfl, hv⟩
    exact ⟨ct0, 33, _, nx, rfl, hv, ⟨A1, B1, 2, by rw [crashed_lit0, e1], o1, r1⟩, .inl ⟨.inr rfl, rfl⟩⟩
  · cases hr : rightC nz with
    | false =>
      refine (Dv.ctarg h 0 (by decide) d nz (by omega) (by omega) hnz hr (by show (2 : Nat) < _; decide) (by show 0 + 1 < _; decide)).mono ?_
      rintro e w' ⟨rfl, hv⟩
      exact ⟨ct0, 2, _, nx, rfl, hv, ⟨A1, B1, 2, by rw [crashed_lit0, e1], o1, r1⟩, .inl ⟨.inl rfl, rfl⟩⟩
    | true =>
      have hgz : nz.gen = nx.gen + 1 := by rw [← hnz]; simp only []; omega
      obtain ⟨q', hq'⟩ : ∃ q' : Nat, nz.gen % 2 = q' := ⟨(nz.gen % 2).toNat, by omega⟩
      have hq1' : q' ≤ 1 := by omega
      obtain ⟨A2, B2, e2, o2, r2⟩ := slots_two hx hr hgz hq hq'
      have h64 := set_64 zzz_64 q nx
      have hl3 : ([z64, z64, z64].set q (putC nx)).length = 3 := by simp
      generalize [z64, z64, z64].set q (putC nx) = L1 at h e1 e2 h64 hl3
      by_cases c0 : cl = 0
      · have hw : wDev ⟨BV L1.flatten, [], 2, (cl : Int), false⟩ (0 + q') 1 (putC nz) = ⟨BV L1.flatten, [], 2, 0, true⟩ := by rw [c0]; exact wDev_zero _ _ _ _ _
        refine (Dv.ctwrite h 0 (by decide) d nz (by omega) hnz hr q' hq' (by show (2 : Nat) < _; decide) (by show 0 + 1 < _; decide) _ hw ct0 10 _ (resA _ _ _ _ (by omega) _ _)).mono ?_
        rintro e w' ⟨rfl, hv⟩
        exact ⟨ct0, 10, _, nx, rfl, hv, ⟨A1, B1, 2, by rw [crashed_lit0, e1], o1, r1⟩, .inr (.inl ⟨rfl, rfl⟩)⟩
      · have hne : ((cl : Nat) : Int) ≠ 0 := by omega
        have hw := wDev_lit (BV L1.flatten) [] 2 (0 + q') (cl : Int) hne (putC nz) (putC_length _)
        rw [List.nil_append, if_pos (by omega)] at hw
        rw [show 0 + q' = q' by omega] at hw
        have hw' : wDev ⟨BV L1.flatten, [], 2, (cl : Int), false⟩ (0 + q') 1 (putC nz) = ⟨BV L1.flatten, [(q', BV (putC nz))], 2 + 1, (cl : Int) - 1, false⟩ := by rw [show 0 + q' = q' by omega]; exact hw
        by_cases c1 : cl = 1
        · refine (Dv.ctwrite h 0 (by decide) d nz (by omega) hnz hr q' hq' (by show (2 : Nat) < _; decide) (by show 0 + 1 < _; decide) _ hw' ct0 10 _ (resB _ _ _ _ _ _ _ _ hne (by omega) _ _)).mono ?_
          rintro e w' ⟨rfl, hv⟩
          cases hk : ks.getD 0 false with
          | true => exact ⟨ct0, 10, _, nz, rfl, hv, ⟨A2, B2, 2 + 1, by rw [crashed_lit1 h64 (by rw [hl3]; omega) (putC_length _), hk, if_pos rfl, e2], o2, r2⟩, .inr (.inr (.inl ⟨rfl, rfl⟩))⟩
          | false => exact ⟨ct0, 10, _, nx, rfl, hv, ⟨A1, B1, 2 + 1, by rw [crashed_lit1 h64 (by rw [hl3]; omega) (putC_length _), hk, if_neg (by simp), e1], o1, r1⟩, .inr (.inl ⟨rfl, rfl⟩)⟩
        · have hne1 : ((cl : Nat) : Int) - 1 ≠ 0 := by omega
          refine (Dv.ctwrite h 0 (by decide) d nz (by omega) hnz hr q' hq' (by show (2 : Nat) < _; decide) (by show 0 + 1 < _; decide) _ hw' nz 0 _ (resD _ _ _ _ _ _ _ _ hne hne1 _ _ nz _ (flushed_lit h64 (by rw [hl3]; omega) (putC_length _) _ _ hne1))).mono ?_
          rintro e w' ⟨rfl, hv⟩
          exact ⟨nz, 0, _, nz, rfl, hv, ⟨A2, B2, 2 + 1 + 1, by rw [crashed_lit0, e2], o2, r2⟩, .inr (.inr (.inr ⟨rfl, rfl, rfl⟩))⟩
end Go.Proofs.Ytapoagpkjngjpaa

/-
  ControlCrash, walked.
-/
namespace Go.Proofs.Ytapoagpkjngjpaa
open Go.RowKit Go.Shelf
set_option linter.unusedSimpArgs false
set_option linter.unusedVariables false
set_option maxRecDepth 100000

theorem Dv_with {w0 w : World} {b n : Nat} {s : D.DS} {G : List (Nat × List Value × TypeId)} (h : D.Dv w0 w b n s []) (hw : Kept (fun _ => False) w0 w) (hG : ∀ x ∈ G, x.1 < w0.heap.size ∧ Blk w0 x.1 x.2.1 x.2.2) : D.Dv w0 w b n s G := by
  obtain ⟨F, hd, hF, _⟩ := h.dev
  exact ⟨⟨F, hd, hF, fun x hx hf => by have := hF _ hf; have := (hG x hx).1; omega⟩, h.kept, fun x hx => hw.blk (hG x hx).2 (fun h => h)⟩
/-- One of the blocks beside the device is written. -/
theorem Dv_set {w0 w w' : World} {b n g : Nat} {s : D.DS} {L M : List Value} {t : TypeId} {G : List (Nat × List Value × TypeId)} (h : D.Dv w0 w b n s ((g, L, t) :: G)) (hk : Kept (fun k => k = g) w w') (hb : Blk w' g M t) (hg : w0.heap.size ≤ g) (hG : ∀ x ∈ G, x.1 ≠ g) : D.Dv w0 w' b n s ((g, M, t) :: G) := by
  obtain ⟨F, hd, hF, hn⟩ := h.dev
  refine ⟨⟨F, hd.kept hk (fun k hf e => hn (g, L, t) (by simp) (e ▸ hf)), hF, ?_⟩, h.kept.trans hk (fun i hi e => by omega), ?_⟩
  · intro x hx
    rcases List.mem_cons.1 hx with rfl | hx
    · exact hn (g, L, t) (by simp)
    · exact hn x (by simp [hx])
  · intro x hx
    rcases List.mem_cons.1 hx with rfl | hx
    · exact hb
    · exact hk.blk (h.blk x (by simp [hx])) (hG x hx)
theorem Dv_swap {w0 w : World} {b n : Nat} {s : D.DS} {x y : Nat × List Value × TypeId} {G : List (Nat × List Value × TypeId)} (h : D.Dv w0 w b n s (x :: y :: G)) : D.Dv w0 w b n s (y :: x :: G) := by
  obtain ⟨F, hd, hF, hn⟩ := h.dev
  exact ⟨⟨F, hd, hF, fun z hz => hn z (by simp only [List.mem_cons] at hz ⊢; rcases hz with h | h | h <;> simp [h])⟩, h.kept, fun z hz => h.blk z (by simp only [List.mem_cons] at hz ⊢; rcases hz with h | h | h <;> simp [h])⟩
theorem Dv_perm {w0 w : World} {b n : Nat} {s : D.DS} {G H : List (Nat × List Value × TypeId)} (h : D.Dv w0 w b n s G) (hs : ∀ z ∈ H, z ∈ G) : D.Dv w0 w b n s H := by
  obtain ⟨F, hd, hF, hn⟩ := h.dev
  exact ⟨⟨F, hd, hF, fun z hz => hn z (hs z hz)⟩, h.kept, fun z hz => h.blk z (hs z hz)⟩
/-- What the law takes for the next control, where nothing is written. -/
def nextG (g : Int) : Int := min (max g (-1)) 4611686018427387904 + 1

set_option maxHeartbeats 16000000 in
theorem ctcrash_at (w : World) (a d : Ct) (kv : Value) (ks : List Bool) (hk : D.keepIs w kv ks (fun _ => False)) (ha : -9223372036854775808 ≤ a.gen ∧ a.gen ≤ 9223372036854775807) :
    Calls Try.prog 4 #[ctAgg a, ctAgg d, kv] w fun e w' => e = .returned (.bool true) ∧ Kept (fun _ => False) w w' := by
  obtain ⟨i23, hi23, hz23, hs23, hb23⟩ := info_parts Try.info23
  have Hi23 := hide hi23
  have Hz23 := hide hz23
  obtain ⟨i3, hi3, hz3, hs3, hb3⟩ := info_parts Try.info3
  have Hi3 := hide hi3
  have Hs3 := hide hs3
  have Hc0 := hide (ctV_one ct0)
  have Ha1 := hide (ctV_one a)
  have HKp := hide hk
  have HA := hide ha
  obtain ⟨ao, kcap, rfl, hn, hcell⟩ := hk
  obtain ⟨n, hne⟩ : ∃ n, n = ks.length := ⟨_, rfl⟩
  rw [← hne] at HKp hn hcell ⊢
  have HCe := hide hcell
  have Hn := hide hn
  clear hi23 hz23 hs23 hb23 hi3 hz3 hs3 hb3 hn hcell hne ha
  unfold ctAgg
  go_enter Try.func4, Try.ntmps4
  go_wp2_with (first
    | ((with_reducible refine aw_box (dst := some 3) (t := 23) (v := .agg #[.int .i64 a.gen, .int .i64 a.ep, .int .i64 a.ar, .int .i64 a.tl, .int .i64 a.nm, .int .i64 a.re, .int .i64 a.lo]) rfl ?_); intro w1 hb1 hk1 hz1; have Yz1 := hide hz1; clear hz1)
    | ((with_reducible refine aw_box (dst := some 4) (t := 23) (v := .agg #[.int .i64 d.gen, .int .i64 d.ep, .int .i64 d.ar, .int .i64 d.tl, .int .i64 d.nm, .int .i64 d.re, .int .i64 d.lo]) rfl ?_); intro w2 hb2 hk2 hz2; have Yz2 := hide hz2; clear hz2)
    | fail)
  obtain ⟨ba, hba⟩ : ∃ x, x = w.heap.size := ⟨_, rfl⟩
  obtain ⟨bd, hbd⟩ : ∃ x, x = w1.heap.size := ⟨_, rfl⟩
  rw [← hba] at hb1 ⊢
  rw [← hbd] at hb2 ⊢
  have A2 : Hid (Blk w2 ba (ctV a) 23) := hide (hk2.blk hb1 (fun h => h))
  have B2 : Hid (Blk w2 bd (ctV d) 23) := hide hb2
  have K2 := hide (hk1.trans hk2 (fun _ _ h => h))
  have LA : Hid (w.heap.size ≤ ba) := hide (by omega)
  have LB : Hid (w.heap.size ≤ bd) := hide (by have := hk1.size; omega)
  have NE : Hid (ba ≠ bd) := hide (by have := hb1.lt; omega)
  clear hb1 hb2 hk1 hk2 hba hbd Yz1 Yz2
  refine (ctfirst_at w2).mono ?_
  rintro e w3 ⟨rfl, hk3⟩
  have A3 := hide (hk3.blk A2.out (fun h => h))
  have B3 := hide (hk3.blk B2.out (fun h => h))
  have K3 := hide (K2.out.trans hk3 (fun _ _ h => h))
  clear hk3 A2 B2 K2
  have hn2 : n ≤ 9223372036854775807 := Hn.out
  have hwn : IntKind.u64.wrap (n : Int) = n := by rw [IntKind.wrap_u64]; omega
  go_wp2
  go_loopw [7, 26] (fun cv iv wr => ∃ (m k : Nat), cv = .int .u64 m ∧ m < 18446744073709551616 ∧ iv = .int .i64 k ∧ k ≤ n ∧ w3 = wr) (fun _ i _ => n - (intOf i).toNat)
  case atStart => exact ⟨n, 0, rfl, by omega, rfl, Nat.zero_le _, rfl⟩
  case round =>
    obtain ⟨m, k, rfl, hm, rfl, hkn, rfl⟩ := hrel
    clear hwn
    by_cases hlt : k < n
    · obtain ⟨kb, ko, hao, e2, -⟩ := HCe.out k hlt
      have hc : w3.cell? ⟨kb, ko + k, none⟩ = some (.bool (ks.getD k false)) := K3.out.cell e2 (fun h => h)
      subst hao
      obtain ⟨m', hm'⟩ : ∃ m' : Nat, IntKind.u64.wrap ((m : Int) + k) = m' := ⟨(IntKind.u64.wrap ((m : Int) + k)).toNat, by rw [IntKind.wrap_u64]; omega⟩
      have hm2 : m' < 18446744073709551616 := by rw [IntKind.wrap_u64] at hm'; omega
      have hwk : IntKind.u64.wrap (k : Int) = k := by rw [IntKind.wrap_u64]; omega
      cases hv : ks.getD k false with
      | false =>
        rw [hv] at hc
        clear hv e2
        go_wp2
        go_roundw
        case rel => exact ⟨m, k + 1, rfl, hm, rfl, by omega, trivial⟩
        case measure => simp [intOf]; omega
      | true =>
        rw [hv] at hc
        clear hv e2
        go_wp2
        go_roundw
        case rel => exact ⟨m', k + 1, rfl, hm2, rfl, by omega, trivial⟩
        case measure => simp [intOf]; omega
    · obtain ⟨cl, hcl⟩ : ∃ cl, m % 4 = cl := ⟨_, rfl⟩
      have hcl4 : cl < 4 := by omega
      have hcm : (m : Int) % 4 = cl := by omega
      have hcm2 : (m : Int).tmod 4 = cl := by rw [Int.tmod_eq_emod_of_nonneg (by omega)]; exact hcm
      have hwc : IntKind.i64.wrap (cl : Int) = cl := by rw [IntKind.wrap_i64]; omega
      have HCl4 := hide hcl4
      clear hcl hn2
      go_wp2_with fail
      refine (D.Dv.new w w3 3 (by decide) (by decide) K3.out [(bd, ctV d, 23), (ba, ctV a, 23)] (by intro x hx; simp only [List.mem_cons, List.not_mem_nil, or_false] at hx; rcases hx with rfl | rfl; exact B3.out; exact A3.out)).mono ?_
      rintro e w4 ⟨b, rfl, h4⟩
      have D4 := hide h4
      clear h4 A3 B3 K3
      by_cases hsp : 2305843009213693952 ≤ a.gen
      case pos =>
        go_wp2_with (first
          | (with_reducible refine aw_load (x := .tmp 3) (M := ctV a) Try.agg23 rfl (D4.out.blk (ba, ctV a, 23) (by simp)) (by simp [ctV]) (by simp [ctV]) ?_)
          | fail)
        refine (Dv.ctspent D4.out 0 a hsp).mono ?_
        rintro e w5 ⟨rfl, h5⟩
        have D5 := hide h5
        clear h5 D4
        unfold ctAgg
        obtain ⟨f, hf⟩ : ∃ f : Int, f = 33 := ⟨_, rfl⟩
        rw [← hf]
        have hf0 : ¬ f = 0 := by omega
        have hng : rightC { a with gen := nextG a.gen } = false := Bool.eq_false_iff.2 (fun h => by have := (rightC_iff _).1 h; simp only [nextG] at this; omega)
        by_cases hg3 : a.gen ≤ 4611686018427387904
        case pos =>
          have hg1 : ¬ a.gen < -1 := by omega
          have hwn : IntKind.i64.wrap (a.gen + 1) = a.gen + 1 := by rw [IntKind.wrap_i64]; omega
          have hng2 : rightC { a with gen := a.gen + 1 } = false := by have := hng; rw [show nextG a.gen = a.gen + 1 by unfold nextG; omega] at this; exact this
          have HNg := hide hng2
          clear hng hng2
          go_wp2_with (first
            | ((with_reducible refine aw_alloc (dst := some 12) Hi23.out Hz23.out ?_); intro w6 hb_ hk1_ hz_; have Yz_w6 := hide hz_; clear hz_)
            | ((with_reducible refine aw_store (x := .tmp 12) (M := ctV ct0) Try.agg23 rfl rfl rfl Hc0.out hb_ (by simp [Value.cells]) ?_); intro w7 hw_ hk2_ hz2_; have Yz_w7 := hide hz2_; clear hz2_; rw [put_whole _ _ (by simp [Value.cells, ctV])] at hw_; have hkx : Kept (fun _ => False) w5 w7 := hk1_.trans hk2_ (fun i hi h => by omega); have Ax := hide (hkx.blk (D5.out.blk (ba, ctV a, 23) (by simp)) (fun h => h)); have HKx := hide (D5.out.kept.trans hkx (fun _ _ h => h)); clear hb_ hk1_ hk2_ hw_ hkx)
            | (with_reducible refine aw_load (x := .tmp 3) (M := ctV a) Try.agg23 rfl Ax.out (by simp [ctV]) (by simp [ctV]) ?_)
            | ((with_reducible refine aw_alloc (dst := some 14) Hi23.out Hz23.out ?_); intro w8 hb8 hk8 hz8; have Yz8 := hide hz8; clear hz8)
            | ((with_reducible refine aw_store (x := .tmp 14) (M := ctV a) Try.agg23 rfl rfl rfl Ha1.out hb8 (by simp [Value.cells]) ?_); intro w9 hw9 hk9 hz9; have Yz9 := hide hz9; clear hz9; rw [put_whole _ _ (by simp [Value.cells, ctV])] at hw9; have ca : w9.cell? ⟨ba, 0, none⟩ = some (.int .i64 a.gen) := ((hk8.trans hk9 (fun i hi h => by omega) : Kept (fun _ => False) w7 w9).blk Ax.out (fun h => h)).cell 0)
            | (with_reducible refine stop_store 3 ?_)
            | fail)
          refine hide ?_
          refine aw_store1 (v := .int .i64 (a.gen + 1)) Hi3.out Hs3.out rfl rfl rfl rfl hw9 (by simp [ctV]) ?_
          intro w10 hb10 hk10 hz10
          rw [ct_gen] at hb10
          have HKe := hide (((HKx.out.trans hk8 (fun _ _ h => h)).trans hk9 (fun i hi h => by have := HKx.out.size; omega)).trans hk10 (fun i hi h => by have := HKx.out.size; omega))
          have Hb10 := hide hb10
          clear hb8 hk8 hk9 hw9 hk10 hz10 ca hb10 Yz8 Yz9
          go_wp2_with (first
            | (with_reducible refine aw_load (x := .tmp 14) (M := ctV { a with gen := a.gen + 1 }) Try.agg23 rfl Hb10.out (by simp [ctV]) (by simp [ctV]) ?_)
            | fail)
          refine (ctright_at w10 { a with gen := a.gen + 1 } false HNg.out).mono ?_
          rintro e w11 ⟨rfl, hk11⟩
          go_wp2
          go_ret
          exact ⟨rfl, HKe.out.trans hk11 (fun _ _ h => h)⟩
        case neg =>
          have hg1 : ¬ a.gen < -1 := by omega
          have hg4 : 4611686018427387904 < a.gen := by omega
          have hng2 : rightC { a with gen := 4611686018427387905 } = false := by have := hng; rw [show nextG a.gen = 4611686018427387905 by unfold nextG; omega] at this; exact this
          have HNg := hide hng2
          clear hng hng2
          go_wp2_with (first
            | ((with_reducible refine aw_alloc (dst := some 12) Hi23.out Hz23.out ?_); intro w6 hb_ hk1_ hz_; have Yz_w6 := hide hz_; clear hz_)
            | ((with_reducible refine aw_store (x := .tmp 12) (M := ctV ct0) Try.agg23 rfl rfl rfl Hc0.out hb_ (by simp [Value.cells]) ?_); intro w7 hw_ hk2_ hz2_; have Yz_w7 := hide hz2_; clear hz2_; rw [put_whole _ _ (by simp [Value.cells, ctV])] at hw_; have hkx : Kept (fun _ => False) w5 w7 := hk1_.trans hk2_ (fun i hi h => by omega); have Ax := hide (hkx.blk (D5.out.blk (ba, ctV a, 23) (by simp)) (fun h => h)); have HKx := hide (D5.out.kept.trans hkx (fun _ _ h => h)); clear hb_ hk1_ hk2_ hw_ hkx)
            | (with_reducible refine aw_load (x := .tmp 3) (M := ctV a) Try.agg23 rfl Ax.out (by simp [ctV]) (by simp [ctV]) ?_)
            | ((with_reducible refine aw_alloc (dst := some 14) Hi23.out Hz23.out ?_); intro w8 hb8 hk8 hz8; have Yz8 := hide hz8; clear hz8)
            | ((with_reducible refine aw_store (x := .tmp 14) (M := ctV a) Try.agg23 rfl rfl rfl Ha1.out hb8 (by simp [Value.cells]) ?_); intro w9 hw9 hk9 hz9; have Yz9 := hide hz9; clear hz9; rw [put_whole _ _ (by simp [Value.cells, ctV])] at hw9; have ca : w9.cell? ⟨ba, 0, none⟩ = some (.int .i64 a.gen) := ((hk8.trans hk9 (fun i hi h => by omega) : Kept (fun _ => False) w7 w9).blk Ax.out (fun h => h)).cell 0)
            | (with_reducible refine stop_store 3 ?_)
            | fail)
          refine hide ?_
          refine aw_store1 (v := .int .i64 (4611686018427387905)) Hi3.out Hs3.out rfl rfl rfl rfl hw9 (by simp [ctV]) ?_
          intro w10 hb10 hk10 hz10
          rw [ct_gen] at hb10
          have HKe := hide (((HKx.out.trans hk8 (fun _ _ h => h)).trans hk9 (fun i hi h => by have := HKx.out.size; omega)).trans hk10 (fun i hi h => by have := HKx.out.size; omega))
          have Hb10 := hide hb10
          clear hb8 hk8 hk9 hw9 hk10 hz10 ca hb10 Yz8 Yz9
          go_wp2_with (first
            | (with_reducible refine aw_load (x := .tmp 14) (M := ctV { a with gen := 4611686018427387905 }) Try.agg23 rfl Hb10.out (by simp [ctV]) (by simp [ctV]) ?_)
            | fail)
          refine (ctright_at w10 { a with gen := 4611686018427387905 } false HNg.out).mono ?_
          rintro e w11 ⟨rfl, hk11⟩
          go_wp2
          go_ret
          exact ⟨rfl, HKe.out.trans hk11 (fun _ _ h => h)⟩
      case neg =>
      obtain ⟨nx, hnx⟩ : ∃ c : Ct, { a with gen := a.gen + 1 } = c := ⟨_, rfl⟩
      cases hr : rightC nx with
      | false =>
        go_wp2_with (first
          | (with_reducible refine aw_load (x := .tmp 3) (M := ctV a) Try.agg23 rfl (D4.out.blk (ba, ctV a, 23) (by simp)) (by simp [ctV]) (by simp [ctV]) ?_)
          | fail)
        refine (Dv.ctarg D4.out 0 (by decide) a nx (by omega) HA.out.1 hnx hr (by show (0 : Nat) < _; decide) (by show 0 + 1 < _; decide)).mono ?_
        rintro e w5 ⟨rfl, h5⟩
        have D5 := hide h5
        clear h5 D4
        unfold ctAgg
        obtain ⟨f, hf⟩ : ∃ f : Int, f = 2 := ⟨_, rfl⟩
        rw [← hf]
        have hf0 : ¬ f = 0 := by omega
        have hng : rightC { a with gen := nextG a.gen } = false := by
          by_cases h1 : a.gen < -1
          · exact Bool.eq_false_iff.2 (fun h => by have := (rightC_iff _).1 h; simp only [nextG] at this; omega)
          · rw [show nextG a.gen = a.gen + 1 by unfold nextG; omega, hnx]; exact hr
        clear hnx hr
        by_cases hg1 : a.gen < -1
        case pos =>
          have hng2 : rightC { a with gen := 0 } = false := by have := hng; rw [show nextG a.gen = 0 by unfold nextG; omega] at this; exact this
          have HNg := hide hng2
          clear hng hng2
          go_wp2_with (first
            | ((with_reducible refine aw_alloc (dst := some 12) Hi23.out Hz23.out ?_); intro w6 hb_ hk1_ hz_; have Yz_w6 := hide hz_; clear hz_)
            | ((with_reducible refine aw_store (x := .tmp 12) (M := ctV ct0) Try.agg23 rfl rfl rfl Hc0.out hb_ (by simp [Value.cells]) ?_); intro w7 hw_ hk2_ hz2_; have Yz_w7 := hide hz2_; clear hz2_; rw [put_whole _ _ (by simp [Value.cells, ctV])] at hw_; have hkx : Kept (fun _ => False) w5 w7 := hk1_.trans hk2_ (fun i hi h => by omega); have Ax := hide (hkx.blk (D5.out.blk (ba, ctV a, 23) (by simp)) (fun h => h)); have HKx := hide (D5.out.kept.trans hkx (fun _ _ h => h)); clear hb_ hk1_ hk2_ hw_ hkx)
            | (with_reducible refine aw_load (x := .tmp 3) (M := ctV a) Try.agg23 rfl Ax.out (by simp [ctV]) (by simp [ctV]) ?_)
            | ((with_reducible refine aw_alloc (dst := some 14) Hi23.out Hz23.out ?_); intro w8 hb8 hk8 hz8; have Yz8 := hide hz8; clear hz8)
            | ((with_reducible refine aw_store (x := .tmp 14) (M := ctV a) Try.agg23 rfl rfl rfl Ha1.out hb8 (by simp [Value.cells]) ?_); intro w9 hw9 hk9 hz9; have Yz9 := hide hz9; clear hz9; rw [put_whole _ _ (by simp [Value.cells, ctV])] at hw9; have ca : w9.cell? ⟨ba, 0, none⟩ = some (.int .i64 a.gen) := ((hk8.trans hk9 (fun i hi h => by omega) : Kept (fun _ => False) w7 w9).blk Ax.out (fun h => h)).cell 0)
            | (with_reducible refine stop_store 3 ?_)
            | fail)
          refine hide ?_
          refine aw_store1 (v := .int .i64 (0)) Hi3.out Hs3.out rfl rfl rfl rfl hw9 (by simp [ctV]) ?_
          intro w10 hb10 hk10 hz10
          rw [ct_gen] at hb10
          have HKe := hide (((HKx.out.trans hk8 (fun _ _ h => h)).trans hk9 (fun i hi h => by have := HKx.out.size; omega)).trans hk10 (fun i hi h => by have := HKx.out.size; omega))
          have Hb10 := hide hb10
          clear hb8 hk8 hk9 hw9 hk10 hz10 ca hb10 Yz8 Yz9
          go_wp2_with (first
            | (with_reducible refine aw_load (x := .tmp 14) (M := ctV { a with gen := 0 }) Try.agg23 rfl Hb10.out (by simp [ctV]) (by simp [ctV]) ?_)
            | fail)
          refine (ctright_at w10 { a with gen := 0 } false HNg.out).mono ?_
          rintro e w11 ⟨rfl, hk11⟩
          go_wp2
          go_ret
          exact ⟨rfl, HKe.out.trans hk11 (fun _ _ h => h)⟩
        case neg =>
          have hg3 : a.gen ≤ 4611686018427387904 := by omega
          have hwn : IntKind.i64.wrap (a.gen + 1) = a.gen + 1 := by rw [IntKind.wrap_i64]; omega
          have hng2 : rightC { a with gen := a.gen + 1 } = false := by have := hng; rw [show nextG a.gen = a.gen + 1 by unfold nextG; omega] at this; exact this
          have HNg := hide hng2
          clear hng hng2
          go_wp2_with (first
            | ((with_reducible refine aw_alloc (dst := some 12) Hi23.out Hz23.out ?_); intro w6 hb_ hk1_ hz_; have Yz_w6 := hide hz_; clear hz_)
            | ((with_reducible refine aw_store (x := .tmp 12) (M := ctV ct0) Try.agg23 rfl rfl rfl Hc0.out hb_ (by simp [Value.cells]) ?_); intro w7 hw_ hk2_ hz2_; have Yz_w7 := hide hz2_; clear hz2_; rw [put_whole _ _ (by simp [Value.cells, ctV])] at hw_; have hkx : Kept (fun _ => False) w5 w7 := hk1_.trans hk2_ (fun i hi h => by omega); have Ax := hide (hkx.blk (D5.out.blk (ba, ctV a, 23) (by simp)) (fun h => h)); have HKx := hide (D5.out.kept.trans hkx (fun _ _ h => h)); clear hb_ hk1_ hk2_ hw_ hkx)
            | (with_reducible refine aw_load (x := .tmp 3) (M := ctV a) Try.agg23 rfl Ax.out (by simp [ctV]) (by simp [ctV]) ?_)
            | ((with_reducible refine aw_alloc (dst := some 14) Hi23.out Hz23.out ?_); intro w8 hb8 hk8 hz8; have Yz8 := hide hz8; clear hz8)
            | ((with_reducible refine aw_store (x := .tmp 14) (M := ctV a) Try.agg23 rfl rfl rfl Ha1.out hb8 (by simp [Value.cells]) ?_); intro w9 hw9 hk9 hz9; have Yz9 := hide hz9; clear hz9; rw [put_whole _ _ (by simp [Value.cells, ctV])] at hw9; have ca : w9.cell? ⟨ba, 0, none⟩ = some (.int .i64 a.gen) := ((hk8.trans hk9 (fun i hi h => by omega) : Kept (fun _ => False) w7 w9).blk Ax.out (fun h => h)).cell 0)
            | (with_reducible refine stop_store 3 ?_)
            | fail)
          refine hide ?_
          refine aw_store1 (v := .int .i64 (a.gen + 1)) Hi3.out Hs3.out rfl rfl rfl rfl hw9 (by simp [ctV]) ?_
          intro w10 hb10 hk10 hz10
          rw [ct_gen] at hb10
          have HKe := hide (((HKx.out.trans hk8 (fun _ _ h => h)).trans hk9 (fun i hi h => by have := HKx.out.size; omega)).trans hk10 (fun i hi h => by have := HKx.out.size; omega))
          have Hb10 := hide hb10
          clear hb8 hk8 hk9 hw9 hk10 hz10 ca hb10 Yz8 Yz9
          go_wp2_with (first
            | (with_reducible refine aw_load (x := .tmp 14) (M := ctV { a with gen := a.gen + 1 }) Try.agg23 rfl Hb10.out (by simp [ctV]) (by simp [ctV]) ?_)
            | fail)
          refine (ctright_at w10 { a with gen := a.gen + 1 } false HNg.out).mono ?_
          rintro e w11 ⟨rfl, hk11⟩
          go_wp2
          go_ret
          exact ⟨rfl, HKe.out.trans hk11 (fun _ _ h => h)⟩
      | true =>
        have hi := (rightC_iff nx).1 hr
        obtain ⟨q, hq⟩ : ∃ q : Nat, nx.gen % 2 = q := ⟨(nx.gen % 2).toNat, by omega⟩
        have hq1 : q ≤ 1 := by omega
        have hxg : nx.gen = a.gen + 1 := by rw [← hnx]
        go_wp2_with (first
          | (with_reducible refine aw_load (x := .tmp 3) (M := ctV a) Try.agg23 rfl (D4.out.blk (ba, ctV a, 23) (by simp)) (by simp [ctV]) (by simp [ctV]) ?_)
          | fail)
        refine (Dv.ctwrite D4.out 0 (by decide) a nx (by omega) hnx hr q hq (by show (0 : Nat) < _; decide) (by show 0 + 1 < _; decide) _ rfl nx 0 _ (res1 hq1)).mono ?_
        rintro e w5 ⟨rfl, h5⟩
        have D5 := hide h5
        clear h5 D4
        unfold ctAgg
        have HX1 := hide (ctV_one nx)
        obtain ⟨nz, hnz⟩ : ∃ c : Ct, { { d with gen := nx.gen } with gen := nx.gen + 1 } = c := ⟨_, rfl⟩
        have HSec := hide (fun (w' : World) G (h : D.Dv w w' b 3 ⟨BV ([z64, z64, z64].set q (putC nx)).flatten, [], 2, cl, false⟩ G) => ctsecond hr hq HCl4.out h { d with gen := nx.gen } rfl ks nz hnz)
        have HNz : Hid (eqC nz nx = false) := hide (Bool.eq_false_iff.2 (fun h => by have e := eqC_iff.1 h; have g := congrArg Ct.gen e; rw [← hnz] at g; simp only [] at g; omega))
        have HNz2 : Hid (nz = { d with gen := nx.gen + 1 }) := hide (by rw [← hnz])
        have Hxg : Hid (1 ≤ nx.gen ∧ nx.gen ≤ 2305843009213693952) := hide ⟨hi.1, hi.2.1⟩
        have HXR := hide hr
        have HG1 : Hid (¬ a.gen < -1) := hide (by omega)
        have HG3 : Hid (a.gen ≤ 4611686018427387904) := hide (by omega)
        have HWn : Hid (IntKind.i64.wrap (a.gen + 1) = a.gen + 1) := hide (by rw [IntKind.wrap_i64]; omega)
        clear hr hi hq hq1 hxg hnx hnz hsp
        have hg1 : ¬ a.gen < -1 := HG1.out
        have hg3 : a.gen ≤ 4611686018427387904 := HG3.out
        have hwn : IntKind.i64.wrap (a.gen + 1) = a.gen + 1 := HWn.out
        go_wp2_with (first
          | ((with_reducible refine aw_alloc (dst := some 12) Hi23.out Hz23.out ?_); intro w6 hb_ hk1_ hz_; have Yz_w6 := hide hz_; clear hz_)
          | ((with_reducible refine aw_store (x := .tmp 12) (M := ctV nx) Try.agg23 rfl rfl rfl HX1.out hb_ (by simp [Value.cells]) ?_); intro w7 hw_ hk2_ hz2_; have Yz_w7 := hide hz2_; clear hz2_; rw [put_whole _ _ (by simp [Value.cells, ctV])] at hw_; have hkx : Kept (fun _ => False) w5 w7 := hk1_.trans hk2_ (fun i hi h => by omega); have D7 := hide (Dvm D5.out hkx rfl hw_); clear hb_ hk1_ hk2_ hw_ hkx)
          | (with_reducible refine aw_load (x := .tmp 3) (M := ctV a) Try.agg23 rfl (D7.out.blk (ba, ctV a, 23) (by simp)) (by simp [ctV]) (by simp [ctV]) ?_)
          | ((with_reducible refine aw_alloc (dst := some 14) Hi23.out Hz23.out ?_); intro w8 hb8 hk8 hz8; have Yz8 := hide hz8; clear hz8)
          | ((with_reducible refine aw_store (x := .tmp 14) (M := ctV a) Try.agg23 rfl rfl rfl Ha1.out hb8 (by simp [Value.cells]) ?_); intro w9 hw9 hk9 hz9; have Yz9 := hide hz9; clear hz9; rw [put_whole _ _ (by simp [Value.cells, ctV])] at hw9; have ca : w9.cell? ⟨ba, 0, none⟩ = some (.int .i64 a.gen) := ((hk8.trans hk9 (fun i hi h => by omega) : Kept (fun _ => False) w7 w9).blk (D7.out.blk (ba, ctV a, 23) (by simp)) (fun h => h)).cell 0)
          | (with_reducible refine stop_store 3 ?_)
          | fail)
        refine hide ?_
        refine aw_store1 (v := .int .i64 (a.gen + 1)) Hi3.out Hs3.out rfl rfl rfl rfl hw9 (by simp [ctV]) ?_
        intro w10 hb10 hk10 hz10
        have hkx : Kept (fun _ => False) w7 w10 := (hk8.trans hk9 (fun i hi h => by omega)).trans hk10 (fun i hi h => by omega)
        obtain ⟨gx, hgx⟩ : ∃ x, x = w5.heap.size := ⟨_, rfl⟩
        rw [← hgx] at D7 ⊢
        have D10 := hide (Dv_perm (H := [(bd, ctV d, 23), (gx, ctV nx, 23)]) (D7.out.same hkx) (by simp))
        have LX : Hid (gx ≠ bd) := hide (by have := (D5.out.blk (bd, ctV d, 23) (by simp)).lt; simp at this; omega)
        have cx : w10.cell? ⟨gx, 0, none⟩ = some (.int .i64 nx.gen) := (D10.out.blk (gx, ctV nx, 23) (by simp)).cell 0
        clear hb8 hk8 hk9 hw9 hb10 hk10 hz10 ca hkx D7 D5 Yz8 Yz9 hgx hg1 hg3 hwn
        go_wp2_with (first
          | (with_reducible refine stop_store 3 ?_)
          | fail)
        refine hide ?_
        refine aw_store1 (v := .int .i64 nx.gen) Hi3.out Hs3.out rfl rfl rfl rfl (D10.out.blk (bd, ctV d, 23) (by simp)) (by simp [ctV]) ?_
        intro w11 hb11 hk11 hz11
        rw [ct_gen] at hb11
        have D11 := hide (Dv_set D10.out hk11 hb11 LB.out (by simp; exact LX.out))
        clear hb11 hk11 hz11 cx D10
        go_wp2_with fail
        refine (D11.out.limit (cl : Int) (by have := HCl4.out; omega)).mono ?_
        rintro e w12 ⟨rfl, h12⟩
        have D12 : Hid (D.Dv w w12 b 3 ⟨BV ([z64, z64, z64].set q (putC nx)).flatten, [], 2, cl, false⟩ [(bd, ctV { d with gen := nx.gen }, 23), (gx, ctV nx, 23)]) := hide (by
          have e : max ((cl : Nat) : Int) (-1) = cl := by omega
          rw [e] at h12
          exact h12)
        clear h12 D11
        go_wp2_with (first
          | (with_reducible refine aw_load (x := .tmp 4) (M := ctV { d with gen := nx.gen }) Try.agg23 rfl (D12.out.blk (bd, ctV { d with gen := nx.gen }, 23) (by simp)) (by simp [ctV]) (by simp [ctV]) ?_)
          | fail)
        refine (HSec.out w12 _ D12.out).mono ?_
        rintro e w13 ⟨yv, f, s2, z, rfl, h13, hcr, hkc⟩
        have D13 := hide h13
        have HCr := hide hcr
        have HKc := hide hkc
        have HY1 := hide (ctV_one yv)
        have HZ1 := hide (ctV_one z)
        clear h13 hcr hkc D12 HSec
        unfold ctAgg
        go_wp2_with (first
          | ((with_reducible refine aw_alloc (dst := some 15) Hi23.out Hz23.out ?_); intro w14 hb_ hk1_ hz_; have Yz_w14 := hide hz_; clear hz_)
          | ((with_reducible refine aw_store (x := .tmp 15) (M := ctV yv) Try.agg23 rfl rfl rfl HY1.out hb_ (by simp [Value.cells]) ?_); intro w15 hw_ hk2_ hz2_; have Yz_w15 := hide hz2_; clear hz2_; rw [put_whole _ _ (by simp [Value.cells, ctV])] at hw_; have hkx : Kept (fun _ => False) w13 w15 := hk1_.trans hk2_ (fun i hi h => by omega); have D15 := hide (Dvm D13.out hkx rfl hw_); clear hb_ hk1_ hk2_ hw_ hkx)
          | fail)
        obtain ⟨gy, hgy⟩ : ∃ x, x = w13.heap.size := ⟨_, rfl⟩
        rw [← hgy] at D15 ⊢
        have HGy : Hid (gy ≠ bd) := hide (by have := (D13.out.blk (bd, ctV { d with gen := nx.gen }, 23) (by simp)).lt; simp at this; omega)
        clear hgy D13
        refine (Dv.crashK D15.out HKp.out).mono ?_
        rintro e w16 ⟨rfl, h16⟩
        obtain ⟨A, B, cc, hcs, hok, hres⟩ := HCr.out
        rw [hcs] at h16
        have D16 := hide h16
        have HRd := hide (fun (w' : World) G (h : D.Dv w w' b 3 ⟨BV [A, B, z64].flatten, [], cc, -1, false⟩ G) => Dv.ctread h 0 (by decide) rfl A B hok (part_flat (L := [A, B, z64]) (by intro x hx; simp only [List.mem_cons, List.not_mem_nil, or_false] at hx; rcases hx with rfl | rfl | rfl; exact hok.1; exact hok.2.1; exact z64_ok.1) rfl rfl) z 0 hres)
        clear h16 hcs hok hres HCr D15
        go_wp2_with fail
        refine (HRd.out w16 _ D16.out).mono ?_
        rintro e w17 ⟨rfl, -, h17⟩
        have D17 := hide h17
        clear h17 HRd D16
        unfold ctAgg
        obtain (⟨hf, hz⟩ | ⟨hf, hz⟩ | ⟨hf, hz⟩ | ⟨hf, hz, hy⟩) := HKc.out
        · clear HKc
          subst hz
          rcases hf with hf | hf
          all_goals
            subst hf
            go_wp2_with (first
              | ((with_reducible refine aw_alloc (dst := some 17) Hi23.out Hz23.out ?_); intro w18 hb_ hk1_ hz_; have Yz_w18 := hide hz_; clear hz_)
              | ((with_reducible refine aw_store (x := .tmp 17) (M := ctV z) Try.agg23 rfl rfl rfl HZ1.out hb_ (by simp [Value.cells]) ?_); intro w19 hw_ hk2_ hz2_; have Yz_w19 := hide hz2_; clear hz2_; rw [put_whole _ _ (by simp [Value.cells, ctV])] at hw_; have hkx : Kept (fun _ => False) w17 w19 := hk1_.trans hk2_ (fun i hi h => by omega); have D19 := hide (Dvm D17.out hkx rfl hw_); clear hb_ hk1_ hk2_ hw_ hkx; have cd : w19.cell? ⟨bd, 0, none⟩ = some (.int .i64 z.gen) := (D19.out.blk (bd, ctV { d with gen := z.gen }, 23) (by simp)).cell 0)
              | (with_reducible refine aw_load (x := .tmp 17) (M := ctV z) Try.agg23 rfl (D19.out.blk (w17.heap.size, ctV z, 23) (by simp)) (by simp [ctV]) (by simp [ctV]) ?_)
              | (with_reducible refine aw_load (x := .tmp 12) (M := ctV z) Try.agg23 rfl (D19.out.blk (gx, ctV z, 23) (by simp)) (by simp [ctV]) (by simp [ctV]) ?_)
              | (with_reducible refine aw_eq23 (c := z) (d := z) rfl rfl rfl (eqC_self z) ?_)
              | fail)
            go_ret
            exact ⟨rfl, D19.out.kept⟩
        · clear HKc
          subst hz
          subst hf
          have hwx : IntKind.i64.wrap (z.gen + 1) = z.gen + 1 := by rw [IntKind.wrap_i64]; have := Hxg.out; omega
          go_wp2_with (first
            | ((with_reducible refine aw_alloc (dst := some 17) Hi23.out Hz23.out ?_); intro w18 hb_ hk1_ hz_; have Yz_w18 := hide hz_; clear hz_)
            | ((with_reducible refine aw_store (x := .tmp 17) (M := ctV z) Try.agg23 rfl rfl rfl HZ1.out hb_ (by simp [Value.cells]) ?_); intro w19 hw_ hk2_ hz2_; have Yz_w19 := hide hz2_; clear hz2_; rw [put_whole _ _ (by simp [Value.cells, ctV])] at hw_; have hkx : Kept (fun _ => False) w17 w19 := hk1_.trans hk2_ (fun i hi h => by omega); have D19 := hide (Dvm D17.out hkx rfl hw_); clear hb_ hk1_ hk2_ hw_ hkx; have cd : w19.cell? ⟨bd, 0, none⟩ = some (.int .i64 z.gen) := (D19.out.blk (bd, ctV { d with gen := z.gen }, 23) (by simp)).cell 0)
            | (with_reducible refine stop_store 3 ?_)
            | fail)
          refine hide ?_
          have D20 := hide (Dv_perm (H := [(bd, ctV { d with gen := z.gen }, 23), (w17.heap.size, ctV z, 23), (gy, ctV yv, 23), (gx, ctV z, 23)]) D19.out (by simp))
          have hx1 : w17.heap.size ≠ bd := by have := (D17.out.blk (bd, ctV { d with gen := z.gen }, 23) (by simp)).lt; simp at this; omega
          have hx2 : gy ≠ bd := HGy.out
          refine aw_store1 (v := .int .i64 (z.gen + 1)) Hi3.out Hs3.out rfl rfl rfl rfl (D20.out.blk (bd, ctV { d with gen := z.gen }, 23) (by simp)) (by simp [ctV]) ?_
          intro w20 hb20 hk20 hz20
          rw [ct_gen] at hb20
          have D21 := hide (Dv_set D20.out hk20 hb20 LB.out (by simp; exact ⟨hx1, hx2, LX.out⟩))
          rw [show ({ ({ d with gen := z.gen } : Ct) with gen := z.gen + 1 } : Ct) = nz from HNz2.out.symm] at D21
          obtain ⟨gz, hgz⟩ : ∃ x, x = w17.heap.size := ⟨_, rfl⟩
          rw [← hgz] at D21 ⊢
          clear hb20 hk20 hz20 hx1 hx2 cd hwx hgz D20 D19 D17
          go_wp2_with (first
            | (with_reducible refine aw_loadG (x := .tmp 17) (t := 23) (M := ctV z) rfl Try.agg23 rfl (D21.out.blk (gz, ctV z, 23) (by simp)) (by simp [ctV]) (by simp [ctV]) ?_)
            | (with_reducible refine aw_loadG (x := .tmp 12) (t := 23) (M := ctV z) rfl Try.agg23 rfl (D21.out.blk (gx, ctV z, 23) (by simp)) (by simp [ctV]) (by simp [ctV]) ?_)
            | (with_reducible refine aw_loadG (x := .tmp 4) (t := 23) (M := ctV nz) rfl Try.agg23 rfl (D21.out.blk (bd, ctV nz, 23) (by simp)) (by simp [ctV]) (by simp [ctV]) ?_)
            | (with_reducible refine aw_loadG (x := .tmp 15) (t := 23) (M := ctV yv) rfl Try.agg23 rfl (D21.out.blk (gy, ctV yv, 23) (by simp)) (by simp [ctV]) (by simp [ctV]) ?_)
            | (with_reducible refine aw_eq23 (c := z) (d := z) rfl rfl rfl (eqC_self z) ?_)
            | fail)
          go_ret
          exact ⟨rfl, D21.out.kept⟩
        · clear HKc
          subst hz
          subst hf
          have hwx : IntKind.i64.wrap (nx.gen + 1) = nx.gen + 1 := by rw [IntKind.wrap_i64]; have := Hxg.out; omega
          go_wp2_with (first
            | ((with_reducible refine aw_alloc (dst := some 17) Hi23.out Hz23.out ?_); intro w18 hb_ hk1_ hz_; have Yz_w18 := hide hz_; clear hz_)
            | ((with_reducible refine aw_store (x := .tmp 17) (M := ctV z) Try.agg23 rfl rfl rfl HZ1.out hb_ (by simp [Value.cells]) ?_); intro w19 hw_ hk2_ hz2_; have Yz_w19 := hide hz2_; clear hz2_; rw [put_whole _ _ (by simp [Value.cells, ctV])] at hw_; have hkx : Kept (fun _ => False) w17 w19 := hk1_.trans hk2_ (fun i hi h => by omega); have D19 := hide (Dvm D17.out hkx rfl hw_); clear hb_ hk1_ hk2_ hw_ hkx; have cd : w19.cell? ⟨bd, 0, none⟩ = some (.int .i64 nx.gen) := (D19.out.blk (bd, ctV { d with gen := nx.gen }, 23) (by simp)).cell 0)
            | (with_reducible refine stop_store 3 ?_)
            | fail)
          refine hide ?_
          have D20 := hide (Dv_perm (H := [(bd, ctV { d with gen := nx.gen }, 23), (w17.heap.size, ctV z, 23), (gy, ctV yv, 23), (gx, ctV nx, 23)]) D19.out (by simp))
          have hx1 : w17.heap.size ≠ bd := by have := (D17.out.blk (bd, ctV { d with gen := nx.gen }, 23) (by simp)).lt; simp at this; omega
          have hx2 : gy ≠ bd := HGy.out
          refine aw_store1 (v := .int .i64 (nx.gen + 1)) Hi3.out Hs3.out rfl rfl rfl rfl (D20.out.blk (bd, ctV { d with gen := nx.gen }, 23) (by simp)) (by simp [ctV]) ?_
          intro w20 hb20 hk20 hz20
          rw [ct_gen] at hb20
          have D21 := hide (Dv_set D20.out hk20 hb20 LB.out (by simp; exact ⟨hx1, hx2, LX.out⟩))
          rw [show ({ ({ d with gen := nx.gen } : Ct) with gen := nx.gen + 1 } : Ct) = z from HNz2.out.symm] at D21
          obtain ⟨gz, hgz⟩ : ∃ x, x = w17.heap.size := ⟨_, rfl⟩
          rw [← hgz] at D21 ⊢
          clear hb20 hk20 hz20 hx1 hx2 cd hwx hgz D20 D19 D17
          go_wp2_with (first
            | (with_reducible refine aw_loadG (x := .tmp 17) (t := 23) (M := ctV z) rfl Try.agg23 rfl (D21.out.blk (gz, ctV z, 23) (by simp)) (by simp [ctV]) (by simp [ctV]) ?_)
            | (with_reducible refine aw_loadG (x := .tmp 12) (t := 23) (M := ctV nx) rfl Try.agg23 rfl (D21.out.blk (gx, ctV nx, 23) (by simp)) (by simp [ctV]) (by simp [ctV]) ?_)
            | (with_reducible refine aw_loadG (x := .tmp 4) (t := 23) (M := ctV z) rfl Try.agg23 rfl (D21.out.blk (bd, ctV z, 23) (by simp)) (by simp [ctV]) (by simp [ctV]) ?_)
            | (with_reducible refine aw_loadG (x := .tmp 15) (t := 23) (M := ctV yv) rfl Try.agg23 rfl (D21.out.blk (gy, ctV yv, 23) (by simp)) (by simp [ctV]) (by simp [ctV]) ?_)
            | (with_reducible refine aw_eq23 (c := z) (d := nx) (b := false) rfl rfl rfl HNz.out ?_)
            | (with_reducible refine aw_eq23 (c := z) (d := z) rfl rfl rfl (eqC_self z) ?_)
            | fail)
          go_ret
          exact ⟨rfl, D21.out.kept⟩
        · clear HKc
          subst hz
          subst hy
          subst hf
          have hwx : IntKind.i64.wrap (nx.gen + 1) = nx.gen + 1 := by rw [IntKind.wrap_i64]; have := Hxg.out; omega
          go_wp2_with (first
            | ((with_reducible refine aw_alloc (dst := some 17) Hi23.out Hz23.out ?_); intro w18 hb_ hk1_ hz_; have Yz_w18 := hide hz_; clear hz_)
            | ((with_reducible refine aw_store (x := .tmp 17) (M := ctV yv) Try.agg23 rfl rfl rfl HZ1.out hb_ (by simp [Value.cells]) ?_); intro w19 hw_ hk2_ hz2_; have Yz_w19 := hide hz2_; clear hz2_; rw [put_whole _ _ (by simp [Value.cells, ctV])] at hw_; have hkx : Kept (fun _ => False) w17 w19 := hk1_.trans hk2_ (fun i hi h => by omega); have D19 := hide (Dvm D17.out hkx rfl hw_); clear hb_ hk1_ hk2_ hw_ hkx; have cd : w19.cell? ⟨bd, 0, none⟩ = some (.int .i64 nx.gen) := (D19.out.blk (bd, ctV { d with gen := nx.gen }, 23) (by simp)).cell 0)
            | (with_reducible refine stop_store 3 ?_)
            | fail)
          refine hide ?_
          have D20 := hide (Dv_perm (H := [(bd, ctV { d with gen := nx.gen }, 23), (w17.heap.size, ctV yv, 23), (gy, ctV yv, 23), (gx, ctV nx, 23)]) D19.out (by simp))
          have hx1 : w17.heap.size ≠ bd := by have := (D17.out.blk (bd, ctV { d with gen := nx.gen }, 23) (by simp)).lt; simp at this; omega
          have hx2 : gy ≠ bd := HGy.out
          refine aw_store1 (v := .int .i64 (nx.gen + 1)) Hi3.out Hs3.out rfl rfl rfl rfl (D20.out.blk (bd, ctV { d with gen := nx.gen }, 23) (by simp)) (by simp [ctV]) ?_
          intro w20 hb20 hk20 hz20
          rw [ct_gen] at hb20
          have D21 := hide (Dv_set D20.out hk20 hb20 LB.out (by simp; exact ⟨hx1, hx2, LX.out⟩))
          rw [show ({ ({ d with gen := nx.gen } : Ct) with gen := nx.gen + 1 } : Ct) = yv from HNz2.out.symm] at D21
          obtain ⟨gz, hgz⟩ : ∃ x, x = w17.heap.size := ⟨_, rfl⟩
          rw [← hgz] at D21 ⊢
          clear hb20 hk20 hz20 hx1 hx2 cd hwx hgz D20 D19 D17
          go_wp2_with (first
            | (with_reducible refine aw_loadG (x := .tmp 17) (t := 23) (M := ctV yv) rfl Try.agg23 rfl (D21.out.blk (gz, ctV yv, 23) (by simp)) (by simp [ctV]) (by simp [ctV]) ?_)
            | (with_reducible refine aw_loadG (x := .tmp 12) (t := 23) (M := ctV nx) rfl Try.agg23 rfl (D21.out.blk (gx, ctV nx, 23) (by simp)) (by simp [ctV]) (by simp [ctV]) ?_)
            | (with_reducible refine aw_loadG (x := .tmp 4) (t := 23) (M := ctV yv) rfl Try.agg23 rfl (D21.out.blk (bd, ctV yv, 23) (by simp)) (by simp [ctV]) (by simp [ctV]) ?_)
            | (with_reducible refine aw_loadG (x := .tmp 15) (t := 23) (M := ctV yv) rfl Try.agg23 rfl (D21.out.blk (gy, ctV yv, 23) (by simp)) (by simp [ctV]) (by simp [ctV]) ?_)
            | (with_reducible refine aw_eq23 (c := yv) (d := nx) (b := false) rfl rfl rfl HNz.out ?_)
            | (with_reducible refine aw_eq23 (c := yv) (d := yv) rfl rfl rfl (eqC_self yv) ?_)
            | fail)
          go_ret
          exact ⟨rfl, D21.out.kept⟩
end Go.Proofs.Ytapoagpkjngjpaa
