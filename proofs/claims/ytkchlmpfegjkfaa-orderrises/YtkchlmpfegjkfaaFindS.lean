/-
  Where a key stands: cmp.Compare, the search by halves, (*Map).list, (*Map).find; what they touch: nothing.
-/
import Derived.Test.YtkchlmpfegjkfaaOTypes
namespace Go.Proofs.Ytkchlmpfegjkfaa
open Go.RowKit Go.Shelf
set_option linter.unusedSimpArgs false
set_option linter.unusedVariables false

set_option maxHeartbeats 400000 in
theorem nanS (x : ByteArray) (w : World) : Calls Try.prog 68 #[(Value.string (x))] w fun e w' => e = .returned (.bool false) ∧ w = w' := by
  go_enter Try.func68, Try.ntmps68
  go_wp2
  go_ret
  exact ⟨rfl, rfl⟩
def cmpS (x y : ByteArray) : Int := if ltS x y then -1 else if ltS y x then 1 else 0
set_option maxHeartbeats 400000 in
theorem compareS (x y : ByteArray) (w : World) : Calls Try.prog 58 #[(Value.string (x)), (Value.string (y))] w fun e w' => e = .returned (.int .i64 (cmpS x y)) ∧ w = w' := by
  cases h1 : Op.bytesLess x.toList y.toList with
  | true =>
    have HC : Hid (cmpS x y = -1) := hide (by simp [cmpS, ltS, h1])
    go_enter Try.func58, Try.ntmps58
    go_wp2_with (go_at_call 68; refine (nanS _ _).mono ?_; rintro e w' ⟨rfl, rfl⟩)
    go_ret
    exact ⟨by rw [HC.out]; rfl, rfl⟩
  | false =>
    cases h2 : Op.bytesLess y.toList x.toList with
    | true =>
      have HC : Hid (cmpS x y = 1) := hide (by simp [cmpS, ltS, h1, h2])
      have he : (x.toList == y.toList) = false := by
        rw [beq_eq_false_iff_ne]
        intro e
        rw [e, less_irr] at h2
        cases h2
      clear h2
      go_enter Try.func58, Try.ntmps58
      go_wp2_with (go_at_call 68; refine (nanS _ _).mono ?_; rintro e w' ⟨rfl, rfl⟩)
      go_ret
      exact ⟨by rw [HC.out]; rfl, rfl⟩
    | false =>
      have HC : Hid (cmpS x y = 0) := hide (by simp [cmpS, ltS, h1, h2])
      have he : (x.toList == y.toList) = true := by rw [beq_iff_eq]; exact less_tri _ _ h1 h2
      clear h2
      go_enter Try.func58, Try.ntmps58
      go_wp2_with (go_at_call 68; refine (nanS _ _).mono ?_; rintro e w' ⟨rfl, rfl⟩)
      go_ret
      exact ⟨by rw [HC.out]; rfl, rfl⟩

set_option maxHeartbeats 400000 in
theorem find1S (x : ByteArray) (v : Int) (y : ByteArray) (w : World) : Calls Try.prog 57 #[.agg #[(Value.string (x)), (Value.int .i64 (v))], (Value.string (y))] w fun e w' => e = .returned (.int .i64 (cmpS x y)) ∧ Kept (fun _ => False) w w' := by
  go_enter Try.func57, Try.ntmps57
  go_wp2_with (go_at_call 58; refine (compareS _ _ _).mono ?_; rintro e w' ⟨rfl, rfl⟩)
  go_ret
  exact ⟨rfl, Kept.alloc _ _ _⟩

theorem cmp_ltS (x y : ByteArray) : decide (cmpS x y < 0) = ltS x y := by
  unfold cmpS
  cases ltS x y <;> cases ltS y x <;> rfl
theorem cmp_eqS (x y : ByteArray) (h : ltS x y = false) : (cmpS x y == 0) = !ltS y x := by
  unfold cmpS
  rw [h]
  cases ltS y x <;> rfl

theorem own_twoS {w : World} {v : Value} {l : List EntS} {g cap : Nat} {C : List Value} (hb : Blk w g (encE ekS evS l ++ C) 77) (i : Nat) (h : i < l.length) : ((encE ekS evS l ++ C).drop (i * 2)).take 2 = [(Value.string (l[i].1)), (Value.int .i64 (l[i].2))] ∧ i * 2 + 2 ≤ (encE ekS evS l ++ C).length := by
  have hl := encE_length (ek := ekS) (ev := evS) l
  constructor
  · rw [List.drop_append_of_le_length (by omega), List.take_append_of_le_length (by simp; omega)]
    exact encE_two l i h
  · simp
    omega

set_option maxRecDepth 100000 in
set_option maxHeartbeats 2000000 in
theorem bsfS (w : World) (v : Value) (l : List EntS) (k : ByteArray) (ho : OwnS w v l) (hs : Sorted ltS l) (hl : l.length ≤ 1000000) :
    Calls Try.prog 56 #[v, (Value.string (k)), .func (.func 57) #[] #[]] w fun e w' => e = .returned (.tuple #[.int .i64 (posK ltS l k : Nat), .bool (hasK ltS l k)]) ∧ Kept (fun _ => False) w w' := by
  rcases ownsRow_blk ho with ⟨rfl, h0, _⟩ | ⟨g, cap, C, rfl, hb, hnc, hcm, hC⟩
  · obtain rfl : l = [] := List.eq_nil_of_length_eq_zero h0
    have HP : Hid (posK ltS ([] : List EntS) k = 0) := hide rfl
    have HH : Hid (hasK ltS ([] : List EntS) k = false) := hide rfl
    clear ho hs
    go_enter Try.func56, Try.ntmps56
    go_wp2
    go_loopw [9, 10] (fun i j wr => i = .int .i64 0 ∧ j = .int .i64 0 ∧ w = wr) (fun i j _ => (intOf j).toNat - (intOf i).toNat)
    case atStart => exact ⟨rfl, rfl, rfl⟩
    case round =>
      obtain ⟨rfl, rfl, rfl⟩ := hrel
      go_wp2
      go_ret2
      exact ⟨by rw [HP.out, HH.out]; rfl, Kept.refl _ _⟩
  · have HS := hide hs
    have HB := hide hb
    have HL := hide hl
    unfold maxLen at hcm
    clear ho hs hb hC
    go_enter Try.func56, Try.ntmps56
    go_wp2
    go_loopw [9, 10] (fun i j wr => ∃ a b : Nat, i = .int .i64 a ∧ j = .int .i64 b ∧ a ≤ b ∧ b ≤ l.length ∧ Hid ((∀ q (h : q < l.length), q < a → ltS l[q].1 k = true) ∧ (∀ q (h : q < l.length), b ≤ q → ltS l[q].1 k = false)) ∧ Kept (fun _ => False) w wr) (fun i j _ => (intOf j).toNat - (intOf i).toNat)
    case atStart => exact ⟨0, l.length, rfl, rfl, Nat.zero_le _, Nat.le_refl _, hide ⟨fun q _ h => absurd h (by omega), fun q h h2 => absurd h2 (by omega)⟩, Kept.refl _ _⟩
    case round =>
      obtain ⟨a, b, rfl, rfl, hab, hbl, HI, hk⟩ := hrel
      by_cases hlt : a < b
      · obtain ⟨h, hh⟩ : ∃ h, h = (a + b) / 2 := ⟨_, rfl⟩
        have hah : a ≤ h := by omega
        have hhb : h < b := by omega
        have hhl : h < l.length := by omega
        have hdv : ((a : Int) + (b : Int)) / 2 = (h : Int) := by omega
        have hB := hk.blk HB.out (fun h => h)
        have ⟨h2, h3⟩ := own_twoS (v := .slice none 0 0) (cap := 0) hB h hhl
        have HB2 := hide hB
        have H2 := hide h2
        have H3 := hide h3
        clear hB h2 h3 hh
        obtain ⟨ki, hki⟩ : ∃ ki, ki = l[h].1 := ⟨_, rfl⟩
        obtain ⟨vi, hvi⟩ : ∃ vi, vi = l[h].2 := ⟨_, rfl⟩
        rw [← hki, ← hvi] at H2
        have HK := hide hki
        clear hki hvi
        have hd := cmp_ltS ki k
        generalize hcv : cmpS ki k = c at hd
        have HCV := hide hcv
        clear hcv
        cases hc : ltS ki k with
        | true =>
          rw [hc] at hd
          have hd' : c < 0 := by simpa using hd
          have HC := hide hc
          clear hd hc
          go_wp2_with (first
            | ((with_reducible refine aw_load Try.agg77 rfl HB2.out H3.out H2.out ?_))
            | (go_at_call 57; refine (find1S ki vi k _).mono ?_; rintro e w2 ⟨rfl, hk2⟩; rw [HCV.out]))
          go_roundw
          case rel => exact ⟨h + 1, b, by simp, rfl, by omega, hbl, hide ⟨fun q hq hqa => HS.out.mono strictS hhl (by omega) (by rw [← HK.out]; exact HC.out), HI.out.2⟩, hk.trans hk2 (fun _ _ h => h)⟩
          case measure => simp [intOf]; omega
        | false =>
          rw [hc] at hd
          have hd' : ¬ c < 0 := by simpa using hd
          have HC := hide hc
          clear hd hc
          go_wp2_with (first
            | ((with_reducible refine aw_load Try.agg77 rfl HB2.out H3.out H2.out ?_))
            | (go_at_call 57; refine (find1S ki vi k _).mono ?_; rintro e w2 ⟨rfl, hk2⟩; rw [HCV.out]))
          go_roundw
          case rel => exact ⟨a, h, rfl, rfl, hah, by omega, hide ⟨HI.out.1, fun q hq hqh => by
            cases hx : ltS l[q].1 k with
            | false => rfl
            | true => have := HS.out.mono strictS hq hqh hx; rw [← HK.out, HC.out] at this; cases this⟩, hk.trans hk2 (fun _ _ h => h)⟩
          case measure => simp [intOf]; omega
      · obtain rfl : a = b := by omega
        have hpos : a = posK ltS l k := posK_eq hbl HI.out.1 (fun h => HI.out.2 a h (Nat.le_refl _))
        have HP := hide hpos
        clear hpos
        by_cases hal : a < l.length
        · have hB := hk.blk HB.out (fun h => h)
          have ⟨h2, h3⟩ := own_twoS (v := .slice none 0 0) (cap := 0) hB a hal
          have HH : Hid (hasK ltS l k = !ltS k l[a].1) := hide (by
            have hp := HP.out
            subst hp
            exact hasK_get hal)
          have hnl : ltS l[a].1 k = false := HI.out.2 a hal (Nat.le_refl _)
          have hce := cmp_eqS _ _ hnl
          obtain ⟨ki, hki⟩ : ∃ ki, ki = l[a].1 := ⟨_, rfl⟩
          obtain ⟨vi, hvi⟩ : ∃ vi, vi = l[a].2 := ⟨_, rfl⟩
          rw [← hki, ← hvi] at h2
          rw [← hki] at HH hce
          have c0 : wr.cell? ⟨g, a * 2, none⟩ = some (Value.string (ki)) := by
            have := congrArg (·[0]?) h2
            rw [hB.cell]
            simpa using this
          have c1 : wr.cell? ⟨g, a * 2 + 1, none⟩ = some (Value.int .i64 (vi)) := by
            have := congrArg (·[1]?) h2
            rw [hB.cell]
            simpa using this
          generalize hcv : cmpS ki k = c at hce
          have HCV := hide hcv
          clear hcv hB h2 h3 hki hvi hnl HI
          cases hc : ltS k ki with
          | true =>
            rw [hc] at hce HH
            go_wp2_with ((go_at_call 57; refine (find1S ki vi k _).mono ?_; rintro e w2 ⟨rfl, hk2⟩; rw [HCV.out]))
            go_ret2
            exact ⟨by rw [← HP.out, HH.out]; rfl, hk.trans hk2 (fun _ _ h => h)⟩
          | false =>
            rw [hc] at hce HH
            go_wp2_with ((go_at_call 57; refine (find1S ki vi k _).mono ?_; rintro e w2 ⟨rfl, hk2⟩; rw [HCV.out]))
            go_ret2
            exact ⟨by rw [← HP.out, HH.out]; rfl, hk.trans hk2 (fun _ _ h => h)⟩
        · have HH : Hid (hasK ltS l k = false) := hide (hasK_ge (by rw [← HP.out]; exact hal))
          clear HI
          go_wp2
          go_ret2
          exact ⟨by rw [← HP.out, HH.out]; rfl, hk⟩

set_option maxHeartbeats 400000 in
theorem list_atS (w : World) (p : Nat) (v : Value) (h : Blk w p [v] 75) : Calls Try.prog 44 #[.pointer (some ⟨p, 0, none⟩)] w fun e w' => e = .returned v ∧ w = w' := by
  have hc : w.cell? ⟨p, 0, none⟩ = some v := h.cell 0
  go_enter Try.func44, Try.ntmps44
  go_wp2
  go_ret
  exact ⟨rfl, rfl⟩
set_option maxHeartbeats 400000 in
theorem list_nilS (w : World) : Calls Try.prog 44 #[.pointer none] w fun e w' => e = .returned (.slice none 0 0) ∧ w = w' := by
  go_enter Try.func44, Try.ntmps44
  go_wp2
  go_ret
  exact ⟨rfl, rfl⟩
set_option maxHeartbeats 400000 in
theorem find_atS (w : World) (p : Nat) (v : Value) (l : List EntS) (k : ByteArray) (h : MapS w p v l) (hl : l.length ≤ 1000000) :
    Calls Try.prog 39 #[.pointer (some ⟨p, 0, none⟩), (Value.string (k))] w fun e w' => e = .returned (.tuple #[.int .i64 (posK ltS l k : Nat), .bool (hasK ltS l k)]) ∧ Kept (fun _ => False) w w' := by
  have H1 := hide (list_atS w p v h.blk)
  have H2 := hide (bsfS w v l k h.own h.srt hl)
  generalize posK ltS l k = a at *
  generalize hasK ltS l k = b at *
  clear h hl
  go_enter Try.func39, Try.ntmps39
  go_wp2_with fail
  refine H1.out.mono ?_
  rintro e w1 ⟨rfl, rfl⟩
  go_wp2_with fail
  refine H2.out.mono ?_
  rintro e w2 ⟨rfl, hk⟩
  go_wp2
  go_ret2
  exact ⟨rfl, hk⟩
set_option maxHeartbeats 400000 in
theorem find_nilS (w : World) (k : ByteArray) :
    Calls Try.prog 39 #[.pointer none, (Value.string (k))] w fun e w' => e = .returned (.tuple #[.int .i64 (0 : Nat), .bool false]) ∧ Kept (fun _ => False) w w' := by
  have H1 := hide (list_nilS w)
  have H2 := hide (bsfS w (.slice none 0 0) [] k (World.ownsRow_nil _ _ _ _) List.Pairwise.nil (by simp))
  rw [posK_nil, hasK_nil] at H2
  go_enter Try.func39, Try.ntmps39
  go_wp2_with fail
  refine H1.out.mono ?_
  rintro e w1 ⟨rfl, rfl⟩
  go_wp2_with fail
  refine H2.out.mono ?_
  rintro e w2 ⟨rfl, hk⟩
  go_wp2
  go_ret2
  exact ⟨rfl, hk⟩

end Go.Proofs.Ytkchlmpfegjkfaa
