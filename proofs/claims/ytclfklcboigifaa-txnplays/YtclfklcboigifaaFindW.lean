/-
  Where a key stands: cmp.Compare, the search by halves, (*Map).list, (*Map).find; what they touch: nothing.
-/
import Derived.Test.YtclfklcboigifaaIterB
namespace Go.Proofs.Ytclfklcboigifaa
open Go.RowKit Go.Shelf
set_option linter.unusedSimpArgs false
set_option linter.unusedVariables false

set_option maxHeartbeats 400000 in
theorem nanW (x : Int) (w : World) : Calls Try.prog 54 #[(Value.int .i64 (x))] w fun e w' => e = .returned (.bool false) ∧ w = w' := by
  go_enter Try.func54, Try.ntmps54
  go_wp2
  go_ret
  exact ⟨rfl, rfl⟩
def cmpW (x y : Int) : Int := if ltI x y then -1 else if ltI y x then 1 else 0
set_option maxHeartbeats 400000 in
theorem compareW (x y : Int) (w : World) : Calls Try.prog 42 #[(Value.int .i64 (x)), (Value.int .i64 (y))] w fun e w' => e = .returned (.int .i64 (cmpW x y)) ∧ w = w' := by
  rcases Int.lt_trichotomy x y with h1 | h1 | h1
  · have HC : Hid (cmpW x y = -1) := hide (by simp [cmpW, ltI, h1])
    go_enter Try.func42, Try.ntmps42
    go_wp2_with (go_at_call 54; refine (nanW _ _).mono ?_; rintro e w' ⟨rfl, rfl⟩)
    go_ret
    exact ⟨by rw [HC.out]; rfl, rfl⟩
  · subst h1
    have HC : Hid (cmpW x x = 0) := hide (by simp [cmpW, ltI])
    go_enter Try.func42, Try.ntmps42
    go_wp2_with (go_at_call 54; refine (nanW _ _).mono ?_; rintro e w' ⟨rfl, rfl⟩)
    go_ret
    exact ⟨by rw [HC.out]; rfl, rfl⟩
  · have h2 : ¬ x < y := by omega
    have HC : Hid (cmpW x y = 1) := hide (by simp [cmpW, ltI, h1, h2])
    go_enter Try.func42, Try.ntmps42
    go_wp2_with (go_at_call 54; refine (nanW _ _).mono ?_; rintro e w' ⟨rfl, rfl⟩)
    go_ret
    exact ⟨by rw [HC.out]; rfl, rfl⟩

set_option maxHeartbeats 400000 in
theorem find1W (x : Int) (v : Sl) (y : Int) (w : World) : Calls Try.prog 41 #[.agg #[(Value.int .i64 (x)), (Value.slice (v).a (v).n (v).c)], (Value.int .i64 (y))] w fun e w' => e = .returned (.int .i64 (cmpW x y)) ∧ Kept (fun _ => False) w w' := by
  go_enter Try.func41, Try.ntmps41
  go_wp2_with (go_at_call 42; refine (compareW _ _ _).mono ?_; rintro e w' ⟨rfl, rfl⟩)
  go_ret
  exact ⟨rfl, Kept.alloc _ _ _⟩

theorem cmp_ltW (x y : Int) : decide (cmpW x y < 0) = ltI x y := by
  unfold cmpW
  cases ltI x y <;> cases ltI y x <;> rfl
theorem cmp_eqW (x y : Int) (h : ltI x y = false) : (cmpW x y == 0) = !ltI y x := by
  unfold cmpW
  rw [h]
  cases ltI y x <;> rfl

theorem own_twoW {w : World} {v : Value} {l : List EntB} {g cap : Nat} {C : List Value} (hb : Blk w g (encE ekB evB l ++ C) 85) (i : Nat) (h : i < l.length) : ((encE ekB evB l ++ C).drop (i * 2)).take 2 = [(Value.int .i64 (l[i].1)), (Value.slice (l[i].2).a (l[i].2).n (l[i].2).c)] ∧ i * 2 + 2 ≤ (encE ekB evB l ++ C).length := by
  have hl := encE_length (ek := ekB) (ev := evB) l
  constructor
  · rw [List.drop_append_of_le_length (by omega), List.take_append_of_le_length (by simp; omega)]
    exact encE_two l i h
  · simp
    omega

set_option maxRecDepth 100000 in
set_option maxHeartbeats 2000000 in
theorem bsfW (w : World) (v : Value) (l : List EntB) (k : Int) (ho : OwnW w v l) (hs : Sorted ltI l) (hl : l.length ≤ 1000000) :
    Calls Try.prog 40 #[v, (Value.int .i64 (k)), .func (.func 41) #[] #[]] w fun e w' => e = .returned (.tuple #[.int .i64 (posK ltI l k : Nat), .bool (hasK ltI l k)]) ∧ Kept (fun _ => False) w w' := by
  rcases ownsRow_blk ho with ⟨rfl, h0, _⟩ | ⟨g, cap, C, rfl, hb, hnc, hcm, hC⟩
  · obtain rfl : l = [] := List.eq_nil_of_length_eq_zero h0
    have HP : Hid (posK ltI ([] : List EntB) k = 0) := hide rfl
    have HH : Hid (hasK ltI ([] : List EntB) k = false) := hide rfl
    clear ho hs
    go_enter Try.func40, Try.ntmps40
    go_wp2
    go_loopw [9, 10] (fun i j wr => i = .int .i64 0 ∧ j = .int .i64 0 ∧ w = wr) (fun i j _ => (intOf j).toNat - (intOf i).toNat)
    case atStart => exact ⟨rfl, rfl, rfl⟩
    case round =>
      obtain ⟨rfl, rfl, rfl⟩ := hrel
      go_wp2
      go_ret2
      exact ⟨by rw [HP.out, HH.out]; rfl, Kept.refl _ _⟩
  · have HS := hide hs
    have HB := hide hb
    have HL := hide hl
    unfold maxLen at hcm
    clear ho hs hb hC
    go_enter Try.func40, Try.ntmps40
    go_wp2
    go_loopw [9, 10] (fun i j wr => ∃ a b : Nat, i = .int .i64 a ∧ j = .int .i64 b ∧ a ≤ b ∧ b ≤ l.length ∧ Hid ((∀ q (h : q < l.length), q < a → ltI l[q].1 k = true) ∧ (∀ q (h : q < l.length), b ≤ q → ltI l[q].1 k = false)) ∧ Kept (fun _ => False) w wr) (fun i j _ => (intOf j).toNat - (intOf i).toNat)
    case atStart => exact ⟨0, l.length, rfl, rfl, Nat.zero_le _, Nat.le_refl _, hide ⟨fun q _ h => absurd h (by omega), fun q h h2 => absurd h2 (by omega)⟩, Kept.refl _ _⟩
    case round =>
      obtain ⟨a, b, rfl, rfl, hab, hbl, HI, hk⟩ := hrel
      by_cases hlt : a < b
      · obtain ⟨h, hh⟩ : ∃ h, h = (a + b) / 2 := ⟨_, rfl⟩
        have hah : a ≤ h := by omega
        have hhb : h < b := by omega
        have hhl : h < l.length := by omega
        have hdv : ((a : Int) + (b : Int)) / 2 = (h : Int) := by omega
        have hB := hk.blk HB.out (fun h => h)
        have ⟨h2, h3⟩ := own_twoW (v := .slice none 0 0) (cap := 0) hB h hhl
        have HB2 := hide hB
        have H2 := hide h2
        have H3 := hide h3
        clear hB h2 h3 hh
        obtain ⟨ki, hki⟩ : ∃ ki, ki = l[h].1 := ⟨_, rfl⟩
        obtain ⟨vi, hvi⟩ : ∃ vi, vi = l[h].2 := ⟨_, rfl⟩
        rw [← hki, ← hvi] at H2
        have HK := hide hki
        clear hki hvi
        have hd := cmp_ltW ki k
        generalize hcv : cmpW ki k = c at hd
        have HCV := hide hcv
        clear hcv
        cases hc : ltI ki k with
        | true =>
          rw [hc] at hd
          have hd' : c < 0 := by simpa using hd
          have HC := hide hc
          clear hd hc
          go_wp2_with (first
            | ((with_reducible refine aw_load Try.agg85 rfl HB2.out H3.out H2.out ?_))
            | (go_at_call 41; refine (find1W ki vi k _).mono ?_; rintro e w2 ⟨rfl, hk2⟩; rw [HCV.out]))
          go_roundw
          case rel => exact ⟨h + 1, b, by simp, rfl, by omega, hbl, hide ⟨fun q hq hqa => HS.out.mono strictI hhl (by omega) (by rw [← HK.out]; exact HC.out), HI.out.2⟩, hk.trans hk2 (fun _ _ h => h)⟩
          case measure => simp [intOf]; omega
        | false =>
          rw [hc] at hd
          have hd' : ¬ c < 0 := by simpa using hd
          have HC := hide hc
          clear hd hc
          go_wp2_with (first
            | ((with_reducible refine aw_load Try.agg85 rfl HB2.out H3.out H2.out ?_))
            | (go_at_call 41; refine (find1W ki vi k _).mono ?_; rintro e w2 ⟨rfl, hk2⟩; rw [HCV.out]))
          go_roundw
          case rel => exact ⟨a, h, rfl, rfl, hah, by omega, hide ⟨HI.out.1, fun q hq hqh => by
            cases hx : ltI l[q].1 k with
            | false => rfl
            | true => have := HS.out.mono strictI hq hqh hx; rw [← HK.out, HC.out] at this; cases this⟩, hk.trans hk2 (fun _ _ h => h)⟩
          case measure => simp [intOf]; omega
      · obtain rfl : a = b := by omega
        have hpos : a = posK ltI l k := posK_eq hbl HI.out.1 (fun h => HI.out.2 a h (Nat.le_refl _))
        have HP := hide hpos
        clear hpos
        by_cases hal : a < l.length
        · have hB := hk.blk HB.out (fun h => h)
          have ⟨h2, h3⟩ := own_twoW (v := .slice none 0 0) (cap := 0) hB a hal
          have HH : Hid (hasK ltI l k = !ltI k l[a].1) := hide (by
            have hp := HP.out
            subst hp
            exact hasK_get hal)
          have hnl : ltI l[a].1 k = false := HI.out.2 a hal (Nat.le_refl _)
          have hce := cmp_eqW _ _ hnl
          obtain ⟨ki, hki⟩ : ∃ ki, ki = l[a].1 := ⟨_, rfl⟩
          obtain ⟨vi, hvi⟩ : ∃ vi, vi = l[a].2 := ⟨_, rfl⟩
          rw [← hki, ← hvi] at h2
          rw [← hki] at HH hce
          have c0 : wr.cell? ⟨g, a * 2, none⟩ = some (Value.int .i64 (ki)) := by
            have := congrArg (·[0]?) h2
            rw [hB.cell]
            simpa using this
          have c1 : wr.cell? ⟨g, a * 2 + 1, none⟩ = some (Value.slice (vi).a (vi).n (vi).c) := by
            have := congrArg (·[1]?) h2
            rw [hB.cell]
            simpa using this
          generalize hcv : cmpW ki k = c at hce
          have HCV := hide hcv
          clear hcv hB h2 h3 hki hvi hnl HI
          cases hc : ltI k ki with
          | true =>
            rw [hc] at hce HH
            go_wp2_with ((go_at_call 41; refine (find1W ki vi k _).mono ?_; rintro e w2 ⟨rfl, hk2⟩; rw [HCV.out]))
            go_ret2
            exact ⟨by rw [← HP.out, HH.out]; rfl, hk.trans hk2 (fun _ _ h => h)⟩
          | false =>
            rw [hc] at hce HH
            go_wp2_with ((go_at_call 41; refine (find1W ki vi k _).mono ?_; rintro e w2 ⟨rfl, hk2⟩; rw [HCV.out]))
            go_ret2
            exact ⟨by rw [← HP.out, HH.out]; rfl, hk.trans hk2 (fun _ _ h => h)⟩
        · have HH : Hid (hasK ltI l k = false) := hide (hasK_ge (by rw [← HP.out]; exact hal))
          clear HI
          go_wp2
          go_ret2
          exact ⟨by rw [← HP.out, HH.out]; rfl, hk⟩

set_option maxHeartbeats 400000 in
theorem list_atW (w : World) (p : Nat) (v : Value) (h : Blk w p [v] 87) : Calls Try.prog 32 #[.pointer (some ⟨p, 0, none⟩)] w fun e w' => e = .returned v ∧ w = w' := by
  have hc : w.cell? ⟨p, 0, none⟩ = some v := h.cell 0
  go_enter Try.func32, Try.ntmps32
  go_wp2
  go_ret
  exact ⟨rfl, rfl⟩
set_option maxHeartbeats 400000 in
theorem list_nilW (w : World) : Calls Try.prog 32 #[.pointer none] w fun e w' => e = .returned (.slice none 0 0) ∧ w = w' := by
  go_enter Try.func32, Try.ntmps32
  go_wp2
  go_ret
  exact ⟨rfl, rfl⟩
set_option maxHeartbeats 400000 in
theorem find_atW (w : World) (p : Nat) (v : Value) (l : List EntB) (k : Int) (h : MapW w p v l) (hl : l.length ≤ 1000000) :
    Calls Try.prog 33 #[.pointer (some ⟨p, 0, none⟩), (Value.int .i64 (k))] w fun e w' => e = .returned (.tuple #[.int .i64 (posK ltI l k : Nat), .bool (hasK ltI l k)]) ∧ Kept (fun _ => False) w w' := by
  have H1 := hide (list_atW w p v h.blk)
  have H2 := hide (bsfW w v l k h.own h.srt hl)
  generalize posK ltI l k = a at *
  generalize hasK ltI l k = b at *
  clear h hl
  go_enter Try.func33, Try.ntmps33
  go_wp2_with fail
  refine H1.out.mono ?_
  rintro e w1 ⟨rfl, rfl⟩
  go_wp2_with fail
  refine H2.out.mono ?_
  rintro e w2 ⟨rfl, hk⟩
  go_wp2
  go_ret2
  exact ⟨rfl, hk⟩
set_option maxHeartbeats 400000 in
theorem find_nilW (w : World) (k : Int) :
    Calls Try.prog 33 #[.pointer none, (Value.int .i64 (k))] w fun e w' => e = .returned (.tuple #[.int .i64 (0 : Nat), .bool false]) ∧ Kept (fun _ => False) w w' := by
  have H1 := hide (list_nilW w)
  have H2 := hide (bsfW w (.slice none 0 0) [] k (World.ownsRow_nil _ _ _ _) List.Pairwise.nil (by simp))
  rw [posK_nil, hasK_nil] at H2
  go_enter Try.func33, Try.ntmps33
  go_wp2_with fail
  refine H1.out.mono ?_
  rintro e w1 ⟨rfl, rfl⟩
  go_wp2_with fail
  refine H2.out.mono ?_
  rintro e w2 ⟨rfl, hk⟩
  go_wp2
  go_ret2
  exact ⟨rfl, hk⟩

end Go.Proofs.Ytclfklcboigifaa
