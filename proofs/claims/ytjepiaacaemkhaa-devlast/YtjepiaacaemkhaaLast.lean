/-
  DevLast answers true for every list of sectors and every number, and its arguments read afterwards as before. Conditions: none.
-/
import Derived.Test.YtjepiaacaemkhaaLastX
import Derived.Test.YtjepiaacaemkhaaOpen
import Derived.ProofKit
import Derived.OpenShut
import Derived.ShutString
import Derived.ChangeOld
import Derived.Deep.Slices
namespace Go.Proofs.Ytjepiaacaemkhaa
open Go.ChangeShapes Go.WideShapes Go.ChangeAt Go.RowKit
set_option linter.unusedSimpArgs false
set_option linter.unusedVariables false

theorem open_sectors {H : Type} {enc : TypeId × Value → H} {w : World} {base : Nat} {spare : Nat → Bool} {held : Bool} {ao : Option Addr} {len cap : Nat} {d : DataW H} {p : List MemPlace}
    (h : DataW.Trod enc Try.prog w base spare held 56 (.slice ao len cap) d p) :
    len ≤ maxLen ∧ ∃ Ls : Nat → List Value, (∀ i, (Ls i).length = 64) ∧ (∀ i, ∀ v ∈ Ls i, isByte v) ∧ (0 < len → ∃ sb so, ao = some ⟨sb, so, none⟩ ∧ sb < w.heap.size ∧ ∀ i, i < len → Cells w sb (so + i * 64) (Ls i)) := by
  obtain ⟨fuel, hf⟩ := h
  have hzb : ∀ v ∈ List.replicate 64 (Value.int .u8 0), isByte v := fun v hv => by rw [List.eq_of_mem_replicate hv]; exact isByte.zero
  rcases Go.Deep.open_slice Try.underlying56 hf with ⟨hcs, _⟩ | ⟨a, len', cap', m, n, D, Pl, hcs, _, hl, hcm, hm, _, hx⟩
  · simp [Value.cells] at hcs
    obtain ⟨rfl, rfl, rfl⟩ := hcs
    exact ⟨Nat.zero_le _, fun _ => List.replicate 64 (.int .u8 0), fun _ => by simp, fun _ => hzb, fun h => by omega⟩
  · simp [Value.cells] at hcs
    obtain ⟨rfl, rfl, rfl⟩ := hcs
    refine ⟨by omega, ?_⟩
    have hlm : len ≤ m := by rw [hm]; split <;> omega
    have each : ∀ i, i < len → ∃ L : List Value, L.length = 64 ∧ (∀ v ∈ L, isByte v) ∧ ∀ j v, L[j]? = some v → w.cell? ((a.add (i * 64)).add j) = some v := by
      intro i hi
      obtain ⟨cs', h1, h2⟩ := hx i (by omega)
      rw [Try.cells54] at h1
      obtain ⟨_, hlen, hcell⟩ := World.cells?_some h1
      exact ⟨cs', hlen, sector_bytes hlen h2, fun j v hj => by
        have := hcell j (by
          rcases Nat.lt_or_ge j 64 with h | h
          · exact h
          · rw [List.getElem?_eq_none (by omega)] at hj; cases hj)
        rw [this]; exact hj⟩
    by_cases h0 : 0 < len
    · obtain ⟨b, off, spot⟩ := a
      have hsp : spot = none := by
        obtain ⟨L, hL, _, hc⟩ := each 0 h0
        have h1 := hc 0 _ (List.getElem?_eq_getElem (by omega))
        simp [Addr.add] at h1
        simpa using World.cell?_spot h1
      subst hsp
      refine ⟨fun i => if h : i < len then (each i h).choose else List.replicate 64 (.int .u8 0), ?_, ?_, ?_⟩
      · intro i
        by_cases h : i < len
        · simp only [h, dif_pos]; exact (each i h).choose_spec.1
        · simp only [h, dif_neg, not_false_eq_true]; simp
      · intro i
        by_cases h : i < len
        · simp only [h, dif_pos]; exact (each i h).choose_spec.2.1
        · simp only [h, dif_neg, not_false_eq_true]; exact hzb
      · intro _
        refine ⟨b, off, rfl, ?_, ?_⟩
        · obtain ⟨L, hL, _, hc⟩ := each 0 h0
          have h1 := hc 0 _ (List.getElem?_eq_getElem (by omega))
          have h2 := World.block_lt_of_cell? w _ h1
          simpa [addr_add] using h2
        · intro i hi j v hj
          simp only [hi, dif_pos] at hj
          have := (each i hi).choose_spec.2.2 j v hj
          rw [addr_add, addr_add] at this
          exact this
    · exact ⟨fun _ => List.replicate 64 (.int .u8 0), fun _ => by simp, fun _ => hzb, fun h => absurd h h0⟩

set_option maxRecDepth 100000 in
theorem last_lifted (os : Os) (started : os.Started) (H : Type) (enc : TypeId × Value → H) :
    ReturnsInHanded {} Try.checked os 5 .any (Rows.devLastSpec.pre6 enc Try.prog Try.f5 Rows.devLastRow.domain false) (Rows.devLastSpec.post enc Try.prog Try.f5 false true false false) := by
  refine returnsInHanded_of_change (C := Try.checked) Try.own started (by kernel_rfl) Try.func5
    (ChangeSpec.witness6 (enc := enc) (C := Try.checked) false ⟨#[], #[.slice none 0 0, .int .u8 0], []⟩ 8 (by kernel_rfl) (by kernel_rfl) (by kernel_rfl) (by kernel_rfl)) ?_
  intro W base args ds gs before hval0 hW hcnd _
  have hval : ∀ (j : Nat) t v, Try.f5.params[j]? = some t → args[j]? = some v → Value.okWide Try.prog W .any base t v := hval0
  have hW' := hW
  obtain ⟨p, q, hA0, hV, rfl, hfz, hnd⟩ := hW
  have hA : DataW.TrodAll enc Try.prog W 0 (fun _ => true) true Try.f5.params.toList args.toList ds p := hA0
  rw [Try.params5] at hA hval
  obtain ⟨v0, v1, d0, d1, p0, p1, rfl, rfl, rfl, h0, h1⟩ := trodAll_two hA
  obtain ⟨rfl, rfl⟩ := trodVars_none hV
  obtain ⟨ao, len, cap, rfl⟩ := okWide_slice Try.underlying56 (hval 0 56 v0 rfl rfl)
  have k0 := h0
  have lt0 : ∀ x ∈ p0, x.block < W.heap.size := by obtain ⟨m, hm⟩ := k0; exact DataW.trod_lt m _ _ _ hm
  obtain ⟨hlm, Ls, hLs, hLb, hsrc⟩ := open_sectors h0
  obtain ⟨x, rfl, rfl, rfl, wx⟩ := open_int Try.underlying5 (hval 1 5 v1 rfl rfl) h1
  have hb := bounds_u8 wx
  clear hA0 hval0
  have hwalk : Calls Try.prog 5 #[.slice ao len cap, .int .u8 x] W fun e w' => e = .returned (.bool true) ∧ Kept (fun _ => False) W w' := by
    by_cases h30 : 30 < len
    · exact last_many W ao len cap x h30 (by unfold maxLen at hlm; omega)
    · exact last_any W ao len cap x (by omega) (by omega) (by omega) Ls hLs hLb hsrc
  refine hwalk.mono fun e W' ⟨he, hk⟩ => ?_
  subst he
  have bel := hk.below
  exact ⟨_, rfl, _, _, _, [], _, [], hW', trodAll_mk1 (shut_bool Try.underlying4 _), (trodAll_cons_mk (Below.trod Try.laidOut (by kernel_rfl) (of_decide_eq_true (by kernel_rfl)) k0 bel lt0) (trodAll_cons_mk (shut_int Try.underlying5 wx) trodAll_mk0)), rfl, bel.frame _, fun h => by cases h⟩

theorem devLast_holds : Rows.DevLastSaid :=
  OpenClaim.holds_of_wide 5 Try.f5 rfl rfl rfl rfl rfl rfl rfl ⟨rfl, rfl, rfl, rfl, rfl⟩ rfl rfl rfl rfl rfl (by kernel_rfl) Try.func5 (by kernel_rfl)
    (of_decide_eq_true (by kernel_rfl)) (by unfold Func.isWrapper; first | (rw [if_pos (by decide +kernel)]; kernel_rfl) | (rw [if_neg (by decide +kernel)]; exact ⟨rfl, rfl⟩))
    (fun os started H enc _ => last_lifted os started H enc)

end Go.Proofs.Ytjepiaacaemkhaa
