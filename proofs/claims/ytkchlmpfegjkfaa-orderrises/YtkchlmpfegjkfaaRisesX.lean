/-
  OrderRises: the walk.
-/
import Derived.Test.YtkchlmpfegjkfaaFloor
import Derived.Test.YtkchlmpfegjkfaaIterS
namespace Go.Proofs.Ytkchlmpfegjkfaa
open Go.RowKit Go.Shelf
set_option linter.unusedSimpArgs false
set_option linter.unusedVariables false

/-- From ao on lie the texts L. -/
def SrcL (w : World) (ao : Option Addr) (L : List ByteArray) : Prop := 0 < L.length → ∃ g off, ao = some ⟨g, off, none⟩ ∧ Cells w g off (L.map Value.string)
theorem SrcL.kept {w w' : World} {ao : Option Addr} {L : List ByteArray} (h : SrcL w ao L) (hk : Kept (fun _ => False) w w') : SrcL w' ao L := fun h0 => by
  obtain ⟨g, off, e, hc⟩ := h h0
  exact ⟨g, off, e, hk.cells hc (fun h => h)⟩
theorem SrcL.at {w : World} {ao : Option Addr} {L : List ByteArray} (h : SrcL w ao L) (i : Nat) (hi : i < L.length) : ∃ g off, ao = some ⟨g, off, none⟩ ∧ w.cell? ⟨g, off + i, none⟩ = some (.string L[i]) := by
  obtain ⟨g, off, e, hc⟩ := h (by omega)
  exact ⟨g, off, e, hc i _ (by simp [hi])⟩

/-- What has been put, k texts of L on. -/
structure InvR (L : List ByteArray) (k : Nat) (E : List EntS) : Prop where
  old : ∀ x ∈ E, ∃ n : Nat, x.2 = (n : Int) ∧ L[n]? = some x.1
  all : ∀ j s, j < k → L[j]? = some s → ∃ u, (s, u) ∈ E
  len : E.length ≤ k
theorem InvR.zero (L : List ByteArray) : InvR L 0 [] := ⟨fun x h => by simp at h, fun j s h => by omega, by simp⟩
theorem InvR.put {L : List ByteArray} {k : Nat} {E : List EntS} (h : InvR L k E) (hk : k < L.length) : InvR L (k + 1) (putK ltS E L[k] (k : Int)) := by
  refine ⟨fun x hx => ?_, fun j s hj hs => ?_, by have := (putK_length ltS E L[k] (k : Int)).1; have := h.len; omega⟩
  · rcases mem_putK hx with rfl | hx
    · exact ⟨k, rfl, List.getElem?_eq_getElem hk⟩
    · exact h.old x hx
  · by_cases e : j = k
    · subst e
      rw [List.getElem?_eq_getElem hk] at hs
      cases hs
      exact ⟨_, mem_putK_self _ _ _ _⟩
    · obtain ⟨u, hu⟩ := h.all j s (by omega) hs
      obtain ⟨u', hu'⟩ := mem_putK_old (v := (k : Int)) (k := L[k]) strictS hu
      exact ⟨u', hu'⟩
/-- What is left of it. -/
def SubR (L : List ByteArray) (N : Nat) (E : List EntS) : Prop := (∀ x ∈ E, ∃ n : Nat, x.2 = (n : Int) ∧ L[n]? = some x.1) ∧ E.length ≤ N
theorem SubR.del {L : List ByteArray} {N : Nat} {E : List EntS} (h : SubR L N E) (s : ByteArray) : SubR L N (delK ltS E s) :=
  ⟨fun x hx => h.1 x (mem_delK hx), by have := delK_length ltS E s; have := h.2; omega⟩
theorem get_mem {E : List EntS} {s : ByteArray} (h : hasK ltS E s = true) : (s, getKS E s) ∈ E := by
  have h1 := hasK_key strictS h
  have h2 := getK_hasS h
  have h3 := List.getElem_mem (hasK_lt h)
  generalize E[posK ltS E s]'(hasK_lt h) = x at h1 h2 h3
  obtain ⟨a, b⟩ := x
  simp only at h1 h2
  subst h1
  rw [h2]
  exact h3

def keysOf (E : List EntS) : List ByteArray := E.map (·.1)
theorem keysOf_length (E : List EntS) : (keysOf E).length = E.length := by simp [keysOf]
theorem keysOf_get (E : List EntS) (i : Nat) (h : i < (keysOf E).length) : (keysOf E)[i] = (E[i]'(by rw [← keysOf_length]; exact h)).1 := by simp [keysOf]
theorem own_srcL {w : World} {kv : Value} {E : List EntS} (h : w.ownsRow 0 9 1 kv E.length (E.map fun x => Value.string x.1)) : ∃ ko kc, kv = .slice ko (keysOf E).length kc ∧ (keysOf E).length ≤ kc ∧ SrcL w ko (keysOf E) := by
  have hkl := keysOf_length E
  rcases ownsRow_blk h with ⟨rfl, h0, _⟩ | ⟨g, cap, C, rfl, hb, hnc, hcm, hC⟩
  · exact ⟨none, 0, by rw [hkl, h0], by omega, fun h => by omega⟩
  · refine ⟨_, cap, by rw [hkl], by omega, fun _ => ⟨g, 0, rfl, ?_⟩⟩
    have h := hb.cells 0 E.length
    rw [List.drop_zero, List.take_append_of_le_length (by simp), List.take_of_length_le (by simp)] at h
    have e : (keysOf E).map Value.string = E.map fun x => Value.string x.1 := by simp [keysOf]
    rw [e]
    exact h
theorem keys_rise {E : List EntS} (hs : Sorted ltS E) (i : Nat) (h : i + 1 < (keysOf E).length) : Op.bytesLess (keysOf E)[i].toList (keysOf E)[i + 1].toList = true := by
  have hkl := keysOf_length E
  rw [keysOf_get, keysOf_get]
  exact hs.get (i := i) (j := i + 1) (by omega) (by omega) (by omega)
theorem keys_got {L : List ByteArray} {N : Nat} {E : List EntS} (hs : Sorted ltS E) (hr : SubR L N E) (i : Nat) (h : i < (keysOf E).length) : hasK ltS E (keysOf E)[i] = true ∧ ∃ n : Nat, getKS E (keysOf E)[i] = (n : Int) ∧ L[n]? = some (keysOf E)[i] := by
  have hkl := keysOf_length E
  have hi : i < E.length := by omega
  have hk : hasK ltS E (keysOf E)[i] = true := (hasK_iff strictS hs).2 ⟨E[i].2, by rw [keysOf_get]; exact List.getElem_mem hi⟩
  exact ⟨hk, hr.1 _ (get_mem hk)⟩

set_option maxRecDepth 100000 in
set_option maxHeartbeats 400000 in
theorem rises_out (w : World) (ao bo : Option Addr) (m n cap cap' : Nat) (hm : m ≤ 4611686018427387903) (hn : n ≤ 4611686018427387903) (h : 200 < m + n) :
    Calls Try.prog 4 #[.slice ao m cap, .slice bo n cap'] w fun e w' => e = .returned (.bool true) ∧ Kept (fun _ => False) w w' := by
  have h' : (200 : Int) < (m : Int) + (n : Int) := by omega
  go_enter Try.func4, Try.ntmps4
  go_wp2_with fail
  refine (first_any w).mono ?_
  rintro e w1 ⟨rfl, hk1⟩
  go_wp2
  go_ret
  exact ⟨rfl, hk1⟩

set_option maxRecDepth 100000 in
set_option maxHeartbeats 8000000 in
theorem rises_in (w : World) (ao bo : Option Addr) (cap cap' : Nat) (L M : List ByteArray) (hL : SrcL w ao L) (hM : SrcL w bo M) (h : L.length + M.length ≤ 200) :
    Calls Try.prog 4 #[.slice ao L.length cap, .slice bo M.length cap'] w fun e w' => e = .returned (.bool true) ∧ Kept (fun _ => False) w w' := by
  have h' : ¬ (200 : Int) < (L.length : Int) + (M.length : Int) := by omega
  have HL := hide hL
  have HM := hide hM
  clear hL hM
  go_enter Try.func4, Try.ntmps4
  go_wp2_with fail
  refine (first_any w).mono ?_
  rintro e w1 ⟨rfl, hk1⟩
  go_wp2_with fail
  refine (new_atS w1).mono ?_
  rintro e w2 ⟨rfl, hM2, hk2⟩
  obtain ⟨p, hp⟩ : ∃ p, p = w1.heap.size := ⟨_, rfl⟩
  rw [← hp] at hM2 ⊢
  have hk02 := hk1.trans hk2 (fun _ _ h => h)
  have hF2 : ∀ k, footM p (.slice none 0 0) k → w.heap.size ≤ k := by
    rintro k (h | h)
    · have := hk1.size; omega
    · simp [Value.ownBlock] at h
  have HM2 := hide hM2
  clear hp hM2 hk1 hk2
  go_wp2
  go_loopw [30] (fun i wr => ∃ (k : Nat) (v : Value) (E : List EntS), i = .int .i64 k ∧ k ≤ L.length ∧ Hid (MapS wr p v E) ∧ Hid (InvR L k E) ∧ Hid (∀ j, footM p v j → w.heap.size ≤ j) ∧ Kept (fun _ => False) w wr) (fun i _ => L.length - (intOf i).toNat)
  case atStart => exact ⟨0, _, _, rfl, Nat.zero_le _, HM2, hide (InvR.zero L), hide hF2, hk02⟩
  case round =>
    obtain ⟨k, v, E, rfl, hk, hMr, hIr, hFr, hkr⟩ := hrel
    by_cases hlt : k < L.length
    · obtain ⟨g, off, rfl, c0⟩ := (HL.out.kept hkr).at k hlt
      have HP := hide (put_atS wr p v E L[k] (k : Int) hMr.out (by have := hIr.out.len; omega))
      have HI := hide (hIr.out.put hlt)
      generalize L[k] = s at c0 HP HI
      go_wp2_with (go_at_call 21; refine HP.out.mono ?_; rintro e w3 ⟨rfl, v3, hM3, hk3, hF3⟩)
      have hk03 := hkr.trans hk3 (fun i hi h => by have := hFr.out i h; omega)
      go_roundw
      case rel => exact ⟨k + 1, v3, _, by simp, by omega, hide hM3, HI, hide (fun j hj => (hF3 j hj).elim (hFr.out j) (fun h => by have := hkr.size; omega)), hk03⟩
      case measure => simp [intOf]; omega
    · obtain rfl : k = L.length := by omega
      have HC := hide (mclone_atS wr p v E hMr.out (by have := hIr.out.len; omega))
      clear HM2 hF2 hk02
      go_wp2_with (go_at_call 22; refine HC.out.mono ?_; rintro e w4 ⟨q, vq, rfl, hMq, hk4, hFq⟩)
      have HMq := hide hMq
      have HM4 := hide (hMr.out.kept hk4 (fun h => h) (fun _ _ h => h))
      have hk04 := hkr.trans hk4 (fun _ _ h => h)
      have HD4 : Hid (∀ j, footM p v j → ¬ footM q vq j) := hide (fun j h1 h2 => by
        have h3 := hFq j h2
        rcases h1 with h1 | h1
        · have := hMr.out.blk.lt; omega
        · have := ownsRow_lt hMr.out.own j h1; omega)
      have HS4 : Hid (SubR L E.length E) := hide ⟨hIr.out.old, Nat.le_refl _⟩
      clear HC hMq hkr hk4 hFq hMr
      go_loopw [44] (fun i wr => ∃ (k : Nat) (v : Value) (E2 : List EntS), i = .int .i64 k ∧ k ≤ M.length ∧ Hid (MapS wr p v E2) ∧ Hid (MapS wr q vq E) ∧ Hid (SubR L E.length E2) ∧ Hid (∀ j, footM p v j → w.heap.size ≤ j) ∧ Hid (∀ j, footM p v j → ¬ footM q vq j) ∧ Kept (fun _ => False) w wr) (fun i _ => M.length - (intOf i).toNat)
      case atStart => exact ⟨0, v, E, rfl, Nat.zero_le _, HM4, HMq, HS4, hFr, HD4, hk04⟩
      case round =>
        clear HM4 HMq HS4 HD4 hk04 hFr
        obtain ⟨k, v, E2, rfl, hk, hMr, hMq, hSr, hFr, hDr, hkr⟩ := hrel
        by_cases hlt : k < M.length
        · obtain ⟨g, off, rfl, c0⟩ := (HM.out.kept hkr).at k hlt
          have HP := hide (delete_atS wr p v E2 M[k] hMr.out (by have := hSr.out.2; have := hIr.out.len; omega))
          have HS := hide (hSr.out.del M[k])
          generalize M[k] = s at c0 HP HS
          go_wp2_with (go_at_call 23; refine HP.out.mono ?_; rintro e w5 ⟨rfl, v5, hM5, hk5, hF5⟩)
          have hk05 := hkr.trans hk5 (fun i hi h => by have := hFr.out i h; omega)
          have hMq5 := hMq.out.kept hk5 (fun h => hDr.out q h (.inl rfl)) (fun j hj h => hDr.out j h (.inr hj))
          have hD5 : ∀ j, footM p v5 j → ¬ footM q vq j := fun j hj hq => (hF5 j hj).elim (fun h => hDr.out j h hq) (fun h => by
            rcases hq with hq | hq
            · have := hMq.out.blk.lt; omega
            · have := ownsRow_lt hMq.out.own j hq; omega)
          go_roundw
          case rel => exact ⟨k + 1, v5, _, by simp, by omega, hide hM5, hide hMq5, HS, hide (fun j hj => (hF5 j hj).elim (hFr.out j) (fun h => by have := hkr.size; omega)), hide hD5, hk05⟩
          case measure => simp [intOf]; omega
        · obtain rfl : k = M.length := by omega
          have hE2 : E2.length ≤ 200 := by have := hSr.out.2; have := hIr.out.len; omega
          have HK := hide (keys_atS wr p v E2 hMr.out (by omega))
          go_wp2_with (go_at_call 24; refine HK.out.mono ?_; rintro e w6 ⟨kv, rfl, ho6, hk6⟩; obtain ⟨ko, kc, rfl, hkc, hks⟩ := own_srcL ho6; have HKs := hide hks; clear ho6 hks)
          have HM6 := hide (hMr.out.kept hk6 (fun h => h) (fun _ _ h => h))
          have HMq6 := hide (hMq.out.kept hk6 (fun h => h) (fun _ _ h => h))
          have hk06 := hkr.trans hk6 (fun _ _ h => h)
          have hKl := keysOf_length E2
          have HR : Hid (∀ i (h : i + 1 < (keysOf E2).length), Op.bytesLess (keysOf E2)[i].toList (keysOf E2)[i + 1].toList = true) := hide (keys_rise hMr.out.srt)
          have HG : Hid (∀ i (h : i < (keysOf E2).length), hasK ltS E2 (keysOf E2)[i] = true ∧ ∃ n : Nat, getKS E2 (keysOf E2)[i] = (n : Int) ∧ L[n]? = some (keysOf E2)[i]) := hide (keys_got hMr.out.srt hSr.out)
          have HEl := hide hKl
          clear HK hMr hMq hFr hDr hkr hk6
          have hK200 : (keysOf E2).length ≤ 200 := by omega
          clear hKl
          go_loopw [56] (fun i wr => ∃ (k : Nat), i = .int .i64 k ∧ k ≤ (keysOf E2).length ∧ Kept (fun _ => False) w6 wr) (fun i _ => (keysOf E2).length - (intOf i).toNat)
          case atStart => exact ⟨0, rfl, Nat.zero_le _, Kept.refl _ _⟩
          case round =>
            obtain ⟨k, rfl, hk, hkr⟩ := hrel
            by_cases hlt : k < (keysOf E2).length
            · obtain ⟨g, off, rfl, c1⟩ := (HKs.out.kept hkr).at k hlt
              obtain ⟨hhas, n, hget, hLn⟩ := HG.out k hlt
              obtain ⟨hnl, hLe⟩ := List.getElem?_eq_some_iff.1 hLn
              obtain ⟨g2, off2, rfl, c2⟩ := (HL.out.kept (hk06.trans hkr (fun _ _ h => h))).at n hnl
              have HGet := hide (fun W (hW : Kept (fun _ => False) w6 W) => get_atS W p v E2 (keysOf E2)[k] (HM6.out.kept hW (fun h => h) (fun _ _ h => h)) (by omega))
              rw [hhas, hget] at HGet
              rw [hLe] at c2
              have HLe := hide hLe
              have hnn : (n : Int) < (L.length : Int) := by omega
              have hnN : n < L.length := hnl
              clear hLn hget hhas hLe
              cases k with
              | zero =>
                rw [Nat.add_zero] at c1
                generalize hsv : (keysOf E2)[0] = s at *
                have Hsv := hide hsv
                clear hsv
                go_wp2
                go_quiet (fail)
                go_wp2_with fail
                refine (HGet.out _ (hkr.drewN _)).mono ?_
                rintro e w7 ⟨rfl, hk7⟩
                have hk67 : Kept (fun _ => False) w6 w7 := (hkr.drewN _).trans hk7 (fun _ _ h => h)
                have hk07 := hk06.trans hk67 (fun _ _ h => h)
                have d1 : w7.cell? ⟨g, off, none⟩ = some (.string s) := by
                  obtain ⟨g', off', he, hc⟩ := (HKs.out.kept hk67).at 0 hlt
                  cases he
                  rw [Hsv.out] at hc
                  exact hc
                have d2 : w7.cell? ⟨g2, off2 + n, none⟩ = some (.string s) := by
                  obtain ⟨g', off', he, hc⟩ := (HL.out.kept hk07).at n hnl
                  cases he
                  rw [HLe.out] at hc
                  exact hc
                clear c1 c2
                go_wp2
                go_quiet (fail)
                go_wp2
                go_roundw
                case rel => exact ⟨0 + 1, by simp, by omega, hk67.drewN _⟩
                case measure => simp [intOf]; omega
              | succ j =>
                have hless := HR.out j hlt
                obtain ⟨g3, off3, he3, c3⟩ := (HKs.out.kept hkr).at j (by omega)
                cases he3
                generalize hsv : (keysOf E2)[j + 1] = s at *
                have Hsv := hide hsv
                clear hsv
                generalize (keysOf E2)[j]'(by omega) = sj at *
                have hw1 : IntKind.i64.wrap ((j : Int) + 1 - 1) = (j : Int) := by rw [IntKind.wrap_i64]; omega
                have hjl : j < (keysOf E2).length := by omega
                have hj1 : (j : Int) + 1 < ((keysOf E2).length : Int) := by omega
                go_wp2
                go_quiet (fail)
                clear hw1
                go_wp2_with fail
                refine (HGet.out _ (hkr.drewN _)).mono ?_
                rintro e w7 ⟨rfl, hk7⟩
                have hk67 : Kept (fun _ => False) w6 w7 := (hkr.drewN _).trans hk7 (fun _ _ h => h)
                have hk07 := hk06.trans hk67 (fun _ _ h => h)
                have d1 : w7.cell? ⟨g, off + (j + 1), none⟩ = some (.string s) := by
                  obtain ⟨g', off', he, hc⟩ := (HKs.out.kept hk67).at (j + 1) hlt
                  cases he
                  rw [Hsv.out] at hc
                  exact hc
                have d2 : w7.cell? ⟨g2, off2 + n, none⟩ = some (.string s) := by
                  obtain ⟨g', off', he, hc⟩ := (HL.out.kept hk07).at n hnl
                  cases he
                  rw [HLe.out] at hc
                  exact hc
                clear c1 c2 c3
                go_wp2
                go_quiet (fail)
                go_wp2
                go_roundw
                case rel => exact ⟨j + 1 + 1, by simp, by omega, hk67.drewN _⟩
                case measure => simp [intOf]; omega
            · obtain rfl : k = (keysOf E2).length := by omega
              have HM7 := hide (HM6.out.kept hkr (fun h => h) (fun _ _ h => h))
              have HMq7 := hide (HMq6.out.kept hkr (fun h => h) (fun _ _ h => h))
              have hk07 := hk06.trans hkr (fun _ _ h => h)
              have HGq : Hid (∀ i (h : i < L.length), hasK ltS E L[i] = true ∧ ∃ n : Nat, getKS E L[i] = (n : Int) ∧ L[n]? = some L[i]) := hide (fun i h => by
                obtain ⟨u, hu⟩ := hIr.out.all i L[i] h (List.getElem?_eq_getElem h)
                have hk : hasK ltS E L[i] = true := (hasK_iff strictS HMq7.out.srt).2 ⟨u, hu⟩
                exact ⟨hk, hIr.out.old _ (get_mem hk)⟩)
              have hEl : E.length ≤ 200 := by have := hIr.out.len; omega
              have hE12 : E2.length ≤ E.length := hSr.out.2
              clear HM6 HMq6 HKs HR HG hk06 hkr
              go_wp2
              go_loopw [98] (fun i w8 => ∃ (k : Nat), i = .int .i64 k ∧ k ≤ L.length ∧ Kept (fun _ => False) wr w8) (fun i _ => L.length - (intOf i).toNat)
              case atStart => exact ⟨0, rfl, Nat.zero_le _, Kept.refl _ _⟩
              case round =>
                obtain ⟨k, rfl, hk, hk8⟩ := hrel
                have hk08 := hk07.trans hk8 (fun _ _ h => h)
                by_cases hlt : k < L.length
                · obtain ⟨g, off, rfl, c1⟩ := (HL.out.kept hk08).at k hlt
                  obtain ⟨hhas, n, hget, hLn⟩ := HGq.out k hlt
                  obtain ⟨hnl, hLe⟩ := List.getElem?_eq_some_iff.1 hLn
                  have HGet := hide (get_atS _ q vq E L[k] (HMq7.out.kept hk8 (fun h => h) (fun _ _ h => h)) (by omega))
                  rw [hhas, hget] at HGet
                  have HLe := hide hLe
                  have hnn : (n : Int) < (L.length : Int) := by omega
                  have hnN : n < L.length := hnl
                  clear hLn hget hhas hLe
                  generalize hsv : L[k] = s at *
                  clear hsv
                  go_wp2_with fail
                  refine HGet.out.mono ?_
                  rintro e w9 ⟨rfl, hk9⟩
                  have hk79 := hk8.trans hk9 (fun _ _ h => h)
                  have d2 : w9.cell? ⟨g, off + n, none⟩ = some (.string s) := by
                    obtain ⟨g', off', he, hc⟩ := (HL.out.kept (hk07.trans hk79 (fun _ _ h => h))).at n hnl
                    cases he
                    rw [HLe.out] at hc
                    exact hc
                  clear c1
                  go_wp2
                  go_roundw
                  case rel => exact ⟨k + 1, by simp, by omega, hk79⟩
                  case measure => simp [intOf]; omega
                · obtain rfl : k = L.length := by omega
                  have HM9 := hide (HM7.out.kept hk8 (fun h => h) (fun _ _ h => h))
                  have HMq9 := hide (HMq7.out.kept hk8 (fun h => h) (fun _ _ h => h))
                  have hE12' : (E2.length : Int) ≤ (E.length : Int) := by omega
                  have heq : ((E2.length : Int) == ((keysOf E2).length : Int)) = true := by rw [HEl.out]; simp
                  go_wp2_with fail
                  refine (len_atS _ p _ E2 HM9.out).mono ?_
                  rintro e w9 ⟨rfl, rfl⟩
                  go_wp2_with fail
                  refine (len_atS _ q _ E HMq9.out).mono ?_
                  rintro e w9 ⟨rfl, rfl⟩
                  go_wp2_with fail
                  refine (len_atS _ p _ E2 HM9.out).mono ?_
                  rintro e w9 ⟨rfl, rfl⟩
                  go_wp2
                  go_ret
                  exact ⟨rfl, hk08⟩

end Go.Proofs.Ytkchlmpfegjkfaa
