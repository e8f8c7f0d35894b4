/-
  The three goings-through of 'look'.
-/
import Derived.Test.YtkchlmpfegjkfaaLookC
namespace Go.Proofs.Ytkchlmpfegjkfaa
open Go.RowKit Go.Shelf
set_option linter.unusedSimpArgs false
set_option linter.unusedVariables false

/-- The word between two rounds: 'good' is true, i is f of what has come. -/
def LookJ (W0 : World) (Bg Bi : Nat) (f : List EntI → Nat) (Pp : List EntI → Prop) (pre : List EntI) (F : Nat → Prop) (W : World) : Prop :=
  Blk W Bg [.bool true] 4 ∧ Blk W Bi [.int .i64 (f pre : Nat)] 3 ∧ F = (fun k => k = Bi ∨ k = Bg) ∧ Kept (fun k => k = Bi ∨ k = Bg) W0 W ∧ Pp pre
theorem LookJ.foot (W0 : World) (Bg Bi : Nat) (f : List EntI → Nat) (Pp : List EntI → Prop) : FootOk W0.heap.size (LookJ W0 Bg Bi f Pp) := by
  refine ⟨?_, ?_⟩
  · rintro pre F _ A C row ⟨hg, hi, rfl, hk, hp⟩ hgr hr
    have hkg := Kept.of_grown hgr
    have hn : ∀ k, IsCells A k → ¬ row = some k := fun k hc e => by
      obtain ⟨_, o, h1, h2⟩ := hr k e
      exact hc.not_loop h1 h2
    refine ⟨hkg.blk hg (hn _ hg.isCells), hkg.blk hi (hn _ hi.isCells), rfl, hk.trans hkg (fun i hi e => ?_), hp⟩
    have := (hr i e).1
    omega
  · rintro pre F A ⟨hg, hi, rfl, hk, hp⟩ k hF hB
    rcases hF with rfl | rfl
    · exact hi.isCells
    · exact hg.isCells
/-- Where the blocks lie. -/
structure LookW (W : World) (p : Nat) (v : Value) (Bg Bl Bo : Nat) (lv : Value) (l : List EntI) (oc : List Value) : Prop where
  map : MapI W p v l
  rd : LookR W Bl Bo lv l oc
  bg : Blk W Bg [.bool true] 4
  len : l.length ≤ 100000
theorem LookW.apart {W : World} {p : Nat} {v : Value} {Bg Bi Bl Bo : Nat} {lv : Value} {l : List EntI} {oc : List Value} (h : LookW W p v Bg Bl Bo lv l oc) {L : List Value} (hi : Blk W Bi L 3) : (∀ k, footM p v k → ¬ (k = Bi ∨ k = Bg)) ∧ ¬ (Bl = Bi ∨ Bl = Bg) ∧ ¬ (Bo = Bi ∨ Bo = Bg) ∧ ∀ k, lv.ownBlock = some k → ¬ (k = Bi ∨ k = Bg) := by
  refine ⟨?_, ?_, ?_, ?_⟩
  · rintro k (hk | hk) (e | e)
    · exact h.map.blk.ne hi (by decide) (by rw [← hk, e])
    · exact h.map.blk.ne h.bg (by decide) (by rw [← hk, e])
    · exact ownsRow_blk_ne h.map.own hi (by decide) (by rw [hk, e])
    · exact ownsRow_blk_ne h.map.own h.bg (by decide) (by rw [hk, e])
  · rintro (e | e)
    · exact h.rd.bl.ne hi (by decide) e
    · exact h.rd.bl.ne h.bg (by decide) e
  · rintro (e | e)
    · exact h.rd.bo.ne hi (by decide) e
    · exact h.rd.bo.ne h.bg (by decide) e
  · rintro k hk (e | e)
    · exact ownsRow_blk_ne h.rd.own hi (by decide) (by rw [hk, e])
    · exact ownsRow_blk_ne h.rd.own h.bg (by decide) (by rw [hk, e])

theorem look_all (W : World) (p : Nat) (v : Value) (Bg Bi Bl Bo Bm : Nat) (lv : Value) (l : List EntI) (kd ky stop : Int) (va : ByteArray) (h : LookW W p v Bg Bl Bo lv l [.int .i64 kd, .int .i64 ky, .int .i64 stop, .string va]) (hi : Blk W Bi [.int .i64 (0 : Nat)] 3) (hbm : Blk W Bm [.pointer (some ⟨p, 0, none⟩)] 24) :
    Calls Try.prog 50 #[.func (.func 32) #[] #[.pointer (some ⟨Bg, 0, none⟩), .pointer (some ⟨Bi, 0, none⟩), .pointer (some ⟨Bl, 0, none⟩), .pointer (some ⟨Bo, 0, none⟩)], .pointer (some ⟨Bm, 0, none⟩)] W fun e W' =>
      (∃ u, e = .returned u) ∧ ∃ i : Nat, Blk W' Bg [.bool true] 4 ∧ Blk W' Bi [.int .i64 (i : Nat)] 3 ∧ Kept (fun k => k = Bi ∨ k = Bg) W W' ∧ i ≤ l.length ∧ (i = l.length ∨ (i : Int) = stop) := by
  obtain ⟨a1, a2, a3, a4⟩ := h.apart hi
  have hs := all1_atI W Bm p v l hbm h.map (by have := h.len; omega) (.func (.func 32) #[] #[.pointer (some ⟨Bg, 0, none⟩), .pointer (some ⟨Bi, 0, none⟩), .pointer (some ⟨Bl, 0, none⟩), .pointer (some ⟨Bo, 0, none⟩)])
    (LookJ W Bg Bi (fun pre => pre.length) (fun _ => True)) (LookJ W Bg Bi (fun pre => pre.length) (fun pre => (pre.length : Int) = stop)) (fun k => k = Bi ∨ k = Bg) rfl (LookJ.foot _ _ _ _ _) (LookJ.foot _ _ _ _ _).own
    (fun k hk => hk.elim (fun e => by rw [e]; exact hi.lt) (fun e => by rw [e]; exact h.bg.lt)) a1 ?yield ⟨h.bg, hi, rfl, Kept.refl _ _, trivial⟩
  case yield =>
    rintro pre x post F W1 hxs ⟨jg, ji, rfl, jk, _⟩
    refine .inl ⟨32, _, rfl, enters_of Try.func32 (by kernel_rfl) rfl, ?_⟩
    refine (c32 W1 Bg Bi Bl Bo lv l kd ky stop va pre.length x jg ji (h.rd.kept jk a2 a3 a4) h.len (by rw [hxs]; simp)).mono ?_
    rintro e W' ⟨rfl, eg, ei, ek⟩
    have hlen : (pre ++ [x]).length = pre.length + 1 := by simp
    refine ⟨fun k => k = Bi ∨ k = Bg, ?_, ek, fun k hk => .inl hk⟩
    by_cases hst : ((pre.length + 1 : Nat) : Int) = stop
    · refine .inr ⟨by rw [decide_eq_true hst]; rfl, eg, by simpa [hlen] using ei, rfl, jk.trans ek (fun _ _ h => h), by show ((pre ++ [x]).length : Int) = stop; rw [hlen]; exact hst⟩
    · refine .inl ⟨by rw [decide_eq_false hst]; rfl, eg, by simpa [hlen] using ei, rfl, jk.trans ek (fun _ _ h => h), trivial⟩
  refine hs.mono ?_
  rintro e W' ⟨hu, ⟨F', jg, ji, _, jk, _⟩ | ⟨pre, F', ⟨post, hpost⟩, jg, ji, _, jk, hst⟩⟩
  · exact ⟨hu, _, jg, ji, jk, Nat.le_refl _, .inl rfl⟩
  · exact ⟨hu, _, jg, ji, jk, by rw [hpost]; simp, .inr hst⟩

theorem look_down (W : World) (p : Nat) (v : Value) (Bg Bi Bl Bo Bm : Nat) (lv : Value) (l : List EntI) (kd ky stop : Int) (va : ByteArray) (h : LookW W p v Bg Bl Bo lv l [.int .i64 kd, .int .i64 ky, .int .i64 stop, .string va]) (hi : Blk W Bi [.int .i64 (l.length : Nat)] 3) (hbm : Blk W Bm [.pointer (some ⟨p, 0, none⟩)] 24) :
    Calls Try.prog 53 #[.func (.func 34) #[] #[.pointer (some ⟨Bi, 0, none⟩), .pointer (some ⟨Bg, 0, none⟩), .pointer (some ⟨Bl, 0, none⟩), .pointer (some ⟨Bo, 0, none⟩)], .pointer (some ⟨Bm, 0, none⟩)] W fun e W' =>
      (∃ u, e = .returned u) ∧ ∃ i : Nat, Blk W' Bg [.bool true] 4 ∧ Blk W' Bi [.int .i64 (i : Nat)] 3 ∧ Kept (fun k => k = Bi ∨ k = Bg) W W' ∧ i ≤ l.length ∧ (i = 0 ∨ ((l.length - i : Nat) : Int) = stop) := by
  obtain ⟨a1, a2, a3, a4⟩ := h.apart hi
  have hs := down1_at W Bm p v l hbm h.map (by have := h.len; omega) (.func (.func 34) #[] #[.pointer (some ⟨Bi, 0, none⟩), .pointer (some ⟨Bg, 0, none⟩), .pointer (some ⟨Bl, 0, none⟩), .pointer (some ⟨Bo, 0, none⟩)])
    (LookJ W Bg Bi (fun pre => l.length - pre.length) (fun _ => True)) (LookJ W Bg Bi (fun pre => l.length - pre.length) (fun pre => (pre.length : Int) = stop)) (fun k => k = Bi ∨ k = Bg) rfl (LookJ.foot _ _ _ _ _) (LookJ.foot _ _ _ _ _).own
    (fun k hk => hk.elim (fun e => by rw [e]; exact hi.lt) (fun e => by rw [e]; exact h.bg.lt)) a1 ?yield ⟨h.bg, hi, rfl, Kept.refl _ _, trivial⟩
  case yield =>
    rintro pre x post F W1 hxs ⟨jg, ji, rfl, jk, _⟩
    refine .inl ⟨34, _, rfl, enters_of Try.func34 (by kernel_rfl) rfl, ?_⟩
    have hll : l.length = pre.length + (post.length + 1) := by
      have := congrArg List.length hxs
      simpa using this
    have hx : l[post.length]? = some x := by
      have e : l = post.reverse ++ x :: pre.reverse := by
        have := congrArg List.reverse hxs
        simpa using this
      rw [e]
      simp
    have ji' : Blk W1 Bi [.int .i64 (post.length + 1 : Nat)] 3 := by
      have ji2 : Blk W1 Bi [.int .i64 (l.length - pre.length : Nat)] 3 := ji
      rw [show l.length - pre.length = post.length + 1 by omega] at ji2
      exact ji2
    refine (c34 W1 Bg Bi Bl Bo lv l kd ky stop va post.length x jg ji' (h.rd.kept jk a2 a3 a4) h.len hx).mono ?_
    rintro e W' ⟨rfl, eg, ei, ek⟩
    have hlen : (pre ++ [x]).length = pre.length + 1 := by simp
    have e1 : l.length - (pre ++ [x]).length = post.length := by rw [hlen]; omega
    have e2 : l.length - post.length = pre.length + 1 := by omega
    rw [e2]
    refine ⟨fun k => k = Bi ∨ k = Bg, ?_, ek, fun k hk => .inl hk⟩
    by_cases hst : ((pre.length + 1 : Nat) : Int) = stop
    · refine .inr ⟨by rw [decide_eq_true hst]; rfl, eg, by show Blk W' Bi [.int .i64 (l.length - (pre ++ [x]).length : Nat)] 3; rw [e1]; exact ei, rfl, jk.trans ek (fun _ _ h => h), by show ((pre ++ [x]).length : Int) = stop; rw [hlen]; exact hst⟩
    · refine .inl ⟨by rw [decide_eq_false hst]; rfl, eg, by show Blk W' Bi [.int .i64 (l.length - (pre ++ [x]).length : Nat)] 3; rw [e1]; exact ei, rfl, jk.trans ek (fun _ _ h => h), trivial⟩
  refine hs.mono ?_
  rintro e W' ⟨hu, ⟨F', jg, ji, _, jk, _⟩ | ⟨pre, F', ⟨post, hpost⟩, jg, ji, _, jk, hst⟩⟩
  · exact ⟨hu, l.length - l.reverse.length, jg, ji, jk, by omega, .inl (by simp)⟩
  · have hll : l.length = pre.length + post.length := by
      have := congrArg List.length hpost
      simpa using this
    exact ⟨hu, l.length - pre.length, jg, ji, jk, by omega, .inr (by rw [show l.length - (l.length - pre.length) = pre.length by omega]; exact hst)⟩

/-- The word of the third: beside i there is n. -/
def LookN (W0 : World) (Bg Bi Bn : Nat) (c : Nat) (Pp : List EntI → Prop) (pre : List EntI) (F : Nat → Prop) (W : World) : Prop :=
  Blk W Bg [.bool true] 4 ∧ Blk W Bi [.int .i64 (c + pre.length : Nat)] 3 ∧ Blk W Bn [.int .i64 (pre.length : Nat)] 3 ∧ F = (fun k => k = Bi ∨ k = Bg ∨ k = Bn) ∧ Kept (fun k => k = Bi ∨ k = Bg ∨ k = Bn) W0 W ∧ Pp pre
theorem LookN.foot (W0 : World) (Bg Bi Bn : Nat) (c : Nat) (Pp : List EntI → Prop) : FootOk W0.heap.size (LookN W0 Bg Bi Bn c Pp) := by
  refine ⟨?_, ?_⟩
  · rintro pre F _ A C row ⟨hg, hi, hn', rfl, hk, hp⟩ hgr hr
    have hkg := Kept.of_grown hgr
    have hn : ∀ k, IsCells A k → ¬ row = some k := fun k hc e => by
      obtain ⟨_, o, h1, h2⟩ := hr k e
      exact hc.not_loop h1 h2
    refine ⟨hkg.blk hg (hn _ hg.isCells), hkg.blk hi (hn _ hi.isCells), hkg.blk hn' (hn _ hn'.isCells), rfl, hk.trans hkg (fun i hi e => ?_), hp⟩
    have := (hr i e).1
    omega
  · rintro pre F A ⟨hg, hi, hn, rfl, hk, hp⟩ k hF hB
    rcases hF with rfl | rfl | rfl
    · exact hi.isCells
    · exact hg.isCells
    · exact hn.isCells

theorem look_from (W : World) (p : Nat) (v : Value) (Bg Bi Bl Bo Bm Bk Bn : Nat) (lv : Value) (l : List EntI) (kd ky stop : Int) (va : ByteArray) (h : LookW W p v Bg Bl Bo lv l [.int .i64 kd, .int .i64 ky, .int .i64 stop, .string va]) (hi : Blk W Bi [.int .i64 (posK ltI l ky : Nat)] 3) (hn : Blk W Bn [.int .i64 (0 : Nat)] 3) (hin : Bi ≠ Bn) (hbm : Blk W Bm [.pointer (some ⟨p, 0, none⟩)] 24) (hbk : Blk W Bk [.int .i64 ky] 3) :
    Calls Try.prog 55 #[.func (.func 36) #[] #[.pointer (some ⟨Bg, 0, none⟩), .pointer (some ⟨Bi, 0, none⟩), .pointer (some ⟨Bl, 0, none⟩), .pointer (some ⟨Bn, 0, none⟩), .pointer (some ⟨Bo, 0, none⟩)], .pointer (some ⟨Bm, 0, none⟩), .pointer (some ⟨Bk, 0, none⟩)] W fun e W' =>
      (∃ u, e = .returned u) ∧ ∃ i n : Nat, Blk W' Bg [.bool true] 4 ∧ Blk W' Bi [.int .i64 (i : Nat)] 3 ∧ Blk W' Bn [.int .i64 (n : Nat)] 3 ∧ Kept (fun k => k = Bi ∨ k = Bg ∨ k = Bn) W W' ∧ i ≤ l.length ∧ (i = l.length ∨ (n : Int) = stop) := by
  obtain ⟨a1, a2, a3, a4⟩ := h.apart hi
  obtain ⟨b1, b2, b3, b4⟩ := h.apart hn
  have hle := posK_le ltI l ky
  have hs := from1_at W Bm Bk p v l ky hbm hbk h.map (by have := h.len; omega) (.func (.func 36) #[] #[.pointer (some ⟨Bg, 0, none⟩), .pointer (some ⟨Bi, 0, none⟩), .pointer (some ⟨Bl, 0, none⟩), .pointer (some ⟨Bn, 0, none⟩), .pointer (some ⟨Bo, 0, none⟩)])
    (LookN W Bg Bi Bn (posK ltI l ky) (fun _ => True)) (LookN W Bg Bi Bn (posK ltI l ky) (fun pre => (pre.length : Int) = stop)) (fun k => k = Bi ∨ k = Bg ∨ k = Bn) rfl (LookN.foot _ _ _ _ _ _) (LookN.foot _ _ _ _ _ _).own
    (fun k hk => hk.elim (fun e => by rw [e]; exact hi.lt) (fun hk => hk.elim (fun e => by rw [e]; exact h.bg.lt) (fun e => by rw [e]; exact hn.lt))) (by
      rintro k hk (e | e | e)
      · exact a1 k hk (.inl e)
      · exact a1 k hk (.inr e)
      · exact b1 k hk (.inl e)) ?yield ⟨h.bg, hi, hn, rfl, Kept.refl _ _, trivial⟩
  case yield =>
    rintro pre x post F W1 hxs ⟨jg, ji, jn, rfl, jk, _⟩
    refine .inl ⟨36, _, rfl, enters_of Try.func36 (by kernel_rfl) rfl, ?_⟩
    have hll : l.length - posK ltI l ky = pre.length + (post.length + 1) := by
      have := congrArg List.length hxs
      simpa using this
    have hx : l[posK ltI l ky + pre.length]? = some x := by
      rw [← List.getElem?_drop, hxs]
      simp
    have hr : LookR W1 Bl Bo lv l [.int .i64 kd, .int .i64 ky, .int .i64 stop, .string va] := h.rd.kept jk (by
      rintro (e | e | e)
      · exact a2 (.inl e)
      · exact a2 (.inr e)
      · exact b2 (.inl e)) (by
      rintro (e | e | e)
      · exact a3 (.inl e)
      · exact a3 (.inr e)
      · exact b3 (.inl e)) (by
      rintro k hk (e | e | e)
      · exact a4 k hk (.inl e)
      · exact a4 k hk (.inr e)
      · exact b4 k hk (.inl e))
    refine (c36 W1 Bg Bi Bl Bn Bo lv l kd ky stop va (posK ltI l ky + pre.length) pre.length x jg ji jn hin hr h.len (by have := h.len; omega) hx).mono ?_
    rintro e W' ⟨rfl, eg, ei, en, ek⟩
    have hlen : (pre ++ [x]).length = pre.length + 1 := by simp
    refine ⟨fun k => k = Bi ∨ k = Bg ∨ k = Bn, ?_, ek, fun k hk => .inl hk⟩
    by_cases hst : ((pre.length + 1 : Nat) : Int) = stop
    · refine .inr ⟨by rw [decide_eq_true hst]; rfl, eg, by rw [hlen, ← Nat.add_assoc]; exact ei, by rw [hlen]; exact en, rfl, jk.trans ek (fun _ _ h => h), by show ((pre ++ [x]).length : Int) = stop; rw [hlen]; exact hst⟩
    · refine .inl ⟨by rw [decide_eq_false hst]; rfl, eg, by rw [hlen, ← Nat.add_assoc]; exact ei, by rw [hlen]; exact en, rfl, jk.trans ek (fun _ _ h => h), trivial⟩
  refine hs.mono ?_
  rintro e W' ⟨hu, ⟨F', jg, ji, jn, _, jk, _⟩ | ⟨pre, F', ⟨post, hpost⟩, jg, ji, jn, _, jk, hst⟩⟩
  · exact ⟨hu, _, _, jg, ji, jn, jk, by rw [List.length_drop]; omega, .inl (by rw [List.length_drop]; omega)⟩
  · have hll : l.length - posK ltI l ky = pre.length + post.length := by
      have := congrArg List.length hpost
      simpa using this
    exact ⟨hu, _, _, jg, ji, jn, jk, by omega, .inr hst⟩

end Go.Proofs.Ytkchlmpfegjkfaa
