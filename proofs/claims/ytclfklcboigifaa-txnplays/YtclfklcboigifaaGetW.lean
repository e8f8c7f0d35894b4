/-
  The order's own functions: New, Put, Get, Delete, Len, Clone; of an order, and of none.
-/
import Derived.Test.YtclfklcboigifaaOpsW
import Derived.Test.YtclfklcboigifaaDelW
namespace Go.Proofs.Ytclfklcboigifaa
open Go.RowKit Go.Shelf
set_option linter.unusedSimpArgs false
set_option linter.unusedVariables false

set_option maxHeartbeats 400000 in
theorem len_atW (w : World) (p : Nat) (v : Value) (l : List EntB) (h : MapW w p v l) : Calls Try.prog 21 #[.pointer (some ⟨p, 0, none⟩)] w fun e w' => e = .returned (.int .i64 (l.length : Nat)) ∧ w = w' := by
  have H1 := hide (list_atW w p v h.blk)
  rcases ownsRow_blk h.own with ⟨rfl, h0, _⟩ | ⟨g, cap, C, rfl, hb, hnc, hcm, hC⟩
  · have H0 := hide h0
    clear h h0
    go_enter Try.func21, Try.ntmps21
    go_wp2_with fail
    refine H1.out.mono ?_
    rintro e w1 ⟨rfl, rfl⟩
    go_wp2
    go_ret
    exact ⟨by rw [H0.out]; rfl, rfl⟩
  · clear h hb hC
    go_enter Try.func21, Try.ntmps21
    go_wp2_with fail
    refine H1.out.mono ?_
    rintro e w1 ⟨rfl, rfl⟩
    go_wp2
    go_ret
    exact ⟨rfl, rfl⟩
set_option maxHeartbeats 400000 in
theorem len_nilW (w : World) : Calls Try.prog 21 #[.pointer none] w fun e w' => e = .returned (.int .i64 0) ∧ w = w' := by
  go_enter Try.func21, Try.ntmps21
  go_wp2_with fail
  refine (list_nilW w).mono ?_
  rintro e w1 ⟨rfl, rfl⟩
  go_wp2
  go_ret
  exact ⟨rfl, rfl⟩

/-- The value that a key has. -/
def getKW (l : List EntB) (k : Int) : Sl := if hasK ltI l k then (l[posK ltI l k]?.map (·.2)).getD (⟨none, 0, 0⟩ : Sl) else (⟨none, 0, 0⟩ : Sl)
theorem getK_hasW {l : List EntB} {k : Int} (h : hasK ltI l k = true) : getKW l k = (l[posK ltI l k]'(hasK_lt h)).2 := by
  simp [getKW, h, List.getElem?_eq_getElem (hasK_lt h)]
theorem getK_notW {l : List EntB} {k : Int} (h : hasK ltI l k = false) : getKW l k = (⟨none, 0, 0⟩ : Sl) := by
  simp [getKW, h]

set_option maxHeartbeats 1000000 in
theorem get_atW (w : World) (p : Nat) (v : Value) (l : List EntB) (k : Int) (h : MapW w p v l) (hl : l.length ≤ 1000000) :
    Calls Try.prog 23 #[.pointer (some ⟨p, 0, none⟩), (Value.int .i64 (k))] w fun e w' => e = .returned (.tuple #[(Value.slice (getKW l k).a (getKW l k).n (getKW l k).c), .bool (hasK ltI l k)]) ∧ Kept (fun _ => False) w w' := by
  have H1 := hide (find_atW w p v l k h hl)
  cases hh : hasK ltI l k with
  | true =>
    have hlt := hasK_lt hh
    have hg := getK_hasW hh
    rcases ownsRow_blk h.own with ⟨_, h0, _⟩ | ⟨g, cap, C, rfl, hb, hnc, hcm, hC⟩
    · omega
    have HB := hide hb
    have HM := hide h.blk
    have hval : ∀ w', Kept (fun _ => False) w w' → w'.cell? ⟨g, posK ltI l k * 2 + 1, none⟩ = some (Value.slice (getKW l k).a (getKW l k).n (getKW l k).c) := by
      intro w' hk
      rw [hg]
      exact own_valW (hk.blk hb (fun h => h)) _ hlt
    have HV := hide hval
    rw [hh] at H1
    clear h hb hC hg hh hval
    generalize posK ltI l k = a at *
    generalize getKW l k = y at *
    unfold maxLen at hcm
    go_enter Try.func23, Try.ntmps23
    go_wp2_with fail
    refine H1.out.mono ?_
    rintro e w2 ⟨rfl, hk⟩
    have c0 : w2.cell? ⟨p, 0, none⟩ = some (.slice (some ⟨g, 0, none⟩) l.length cap) := (hk.blk HM.out (fun h => h)).cell 0
    have c1 := HV.out w2 hk
    go_wp2
    go_ret2
    exact ⟨rfl, hk⟩
  | false =>
    have hg := getK_notW hh
    rw [hh] at H1
    have HG := hide hg
    generalize posK ltI l k = a at *
    generalize getKW l k = y at *
    clear h hh hg
    go_enter Try.func23, Try.ntmps23
    go_wp2_with fail
    refine H1.out.mono ?_
    rintro e w2 ⟨rfl, hk⟩
    go_wp2
    go_ret2
    exact ⟨by rw [HG.out]; rfl, hk⟩
set_option maxHeartbeats 1000000 in
theorem get_nilW (w : World) (k : Int) : Calls Try.prog 23 #[.pointer none, (Value.int .i64 (k))] w fun e w' => e = .returned (.tuple #[(Value.slice ((⟨none, 0, 0⟩ : Sl)).a ((⟨none, 0, 0⟩ : Sl)).n ((⟨none, 0, 0⟩ : Sl)).c), .bool false]) ∧ Kept (fun _ => False) w w' := by
  go_enter Try.func23, Try.ntmps23
  go_wp2_with fail
  refine (find_nilW w k).mono ?_
  rintro e w2 ⟨rfl, hk⟩
  go_wp2
  go_ret2
  exact ⟨rfl, hk⟩

set_option maxRecDepth 100000 in
set_option maxHeartbeats 2000000 in
theorem delete_atW (w : World) (p : Nat) (v : Value) (l : List EntB) (k : Int) (h : MapW w p v l) (hl : l.length ≤ 1000000) :
    Calls Try.prog 26 #[.pointer (some ⟨p, 0, none⟩), (Value.int .i64 (k))] w fun e w' => e = .returned (.bool (hasK ltI l k)) ∧ StepW w w' p v (delK ltI l k) := by
  have H1 := hide (find_atW w p v l k h hl)
  have hsd := h.srt.del k
  cases hh : hasK ltI l k with
  | true =>
    have hlt := hasK_lt hh
    have hdel : delK ltI l k = remK l (posK ltI l k) := by simp [delK, hh]
    rw [hdel] at hsd ⊢
    have HS := hide hsd
    rw [hh] at H1
    have HM := hide h
    have Hn := hide (ownsRow_blk_ne h.own h.blk (by decide))
    generalize posK ltI l k = a at *
    clear h hh hdel hsd
    go_enter Try.func26, Try.ntmps26
    go_wp2_with fail
    refine H1.out.mono ?_
    rintro e w2 ⟨rfl, hk⟩
    have hM2 := HM.out.kept hk (fun h => h) (fun _ _ h => h)
    have c0 : w2.cell? ⟨p, 0, none⟩ = some v := hM2.blk.cell 0
    have HM2 := hide hM2
    have HD := hide (del_atW w2 v l a hM2.own hlt hl)
    have haa : IntKind.i64.wrap ((a : Int) + 1) = ((a + 1 : Nat) : Int) := by rw [IntKind.wrap_i64]; omega
    clear hM2
    go_wp2_with fail
    refine HD.out.mono ?_
    rintro e w3 ⟨v', rfl, hO3, hk3, hv3⟩
    have hb3 : Blk w3 p [v] 87 := hk3.blk HM2.out.blk Hn.out
    have c3 : w3.cell? ⟨p, 0, none⟩ = some v := hb3.cell 0
    have f3 : w3.frozen? ⟨p, 0, none⟩ = false := hb3.frozen 0
    have HO3 := hide hO3
    have HV3 := hide hv3
    have HB3 := hide hb3
    obtain ⟨ao, n3, cp3, rfl⟩ := ownsRow_slice hO3
    clear hO3 hv3 hb3 c0 haa
    go_wp2
    go_ret
    refine ⟨rfl, _, ⟨HB3.out.setCell 0 _, ownsRow_kept HO3.out (Kept.setCell (S := fun k => k = p) w3 ⟨p, 0, none⟩ _ rfl) (fun j hj e => ?_), HS.out⟩, ?_, ?_⟩
    · rw [HV3.out] at hj
      exact Hn.out (by rw [hj, e])
    · exact ((hk.mono (T := footM p v) (fun _ _ h => h.elim)).trans hk3 (fun j hj h => .inr h)).trans (Kept.setCell (S := fun k => k = p) w3 ⟨p, 0, none⟩ _ rfl) (fun j hj h => .inl h)
    · rintro j (h | h)
      · exact .inl (.inl h)
      · rw [HV3.out] at h
        exact .inl (.inr h)
  | false =>
    have hdel : delK ltI l k = l := by simp [delK, hh]
    rw [hdel]
    rw [hh] at H1
    have HM := hide h
    generalize posK ltI l k = a at *
    clear h hh hdel hsd
    go_enter Try.func26, Try.ntmps26
    go_wp2_with fail
    refine H1.out.mono ?_
    rintro e w2 ⟨rfl, hk⟩
    go_wp2
    go_ret
    exact ⟨rfl, v, HM.out.kept hk (fun h => h) (fun _ _ h => h), hk.mono (fun _ _ h => h.elim), fun _ h => .inl h⟩

set_option maxHeartbeats 1000000 in
theorem delete_nilW (w : World) (k : Int) : Calls Try.prog 26 #[.pointer none, (Value.int .i64 (k))] w fun e w' => e = .returned (.bool false) ∧ Kept (fun _ => False) w w' := by
  go_enter Try.func26, Try.ntmps26
  go_wp2_with fail
  refine (find_nilW w k).mono ?_
  rintro e w2 ⟨rfl, hk⟩
  go_wp2
  go_ret
  exact ⟨rfl, hk⟩
end Go.Proofs.Ytclfklcboigifaa
