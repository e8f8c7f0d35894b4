/-
  ImageJoins answers true for every two lists of writes, and its arguments read afterwards as before. Conditions: none.
-/
import Derived.Test.YtlpjhgcafkdhdaaIJoinsW
import Derived.Test.YtlpjhgcafkdhdaaIOpen
import Derived.SizedLaws
namespace Go.Proofs.Ytlpjhgcafkdhdaa
open Go.ChangeShapes Go.WideShapes Go.ChangeAt Go.RowKit
set_option linter.unusedSimpArgs false
set_option linter.unusedVariables false
set_option maxRecDepth 100000

theorem Try.bytes53 : Try.prog.bytesOf 53 = 32 := by kernel_rfl
theorem open_ws2 {H : Type} {enc : TypeId × Value → H} {w : World} {base : Nat} {spare : Nat → Bool} {held : Bool} {ao : Option Addr} {len cap : Nat} {d : DataW H} {p : List MemPlace}
    (h : DataW.Trod enc Try.prog w base spare held 36 (.slice ao len cap) d p) : (ao = none → cap = 0) ∧ (len = 0 ∨ ∃ es sp, d = .slice es sp ∧ es.length = len) := by
  obtain ⟨fuel, hf⟩ := h
  rcases Go.Deep.open_slice Try.underlying36 hf with ⟨hcs, hxe⟩ | ⟨a, len', cap', m, n, D, Pl, hcs, _, hl, hcm, hm, hxe, hx⟩
  · simp [Value.cells] at hcs
    obtain ⟨rfl, rfl, rfl⟩ := hcs
    exact ⟨fun _ => rfl, .inl rfl⟩
  · simp [Value.cells] at hcs
    obtain ⟨rfl, rfl, rfl⟩ := hcs
    refine ⟨fun h => by (try cases h), .inr ⟨_, _, congrArg Prod.fst hxe, by simp⟩⟩

theorem joins_lifted (os : Os) (started : os.Started) (H : Type) (enc : TypeId × Value → H) :
    ReturnsInHanded {} Try.checked os 6 .any (Rows.imageJoinsSpec.pre6 enc Try.prog Try.f6 Rows.imageJoinsRow.domain false) (Rows.imageJoinsSpec.post enc Try.prog Try.f6 false true false false) := by
  refine returnsInHanded_of_change_sized (C := Try.checked) Try.ownK started (by kernel_rfl) Try.func6
    (ChangeSpec.witness6 (enc := enc) (C := Try.checked) false ⟨#[], #[.slice none 0 0, .slice none 0 0], []⟩ 8 (by kernel_rfl) (by kernel_rfl) (by kernel_rfl) (by kernel_rfl)) ?_
  intro W base args ds gs before hval0 hW hcnd0 hsz0 _
  have hval : ∀ (j : Nat) t v, Try.f6.params[j]? = some t → args[j]? = some v → Value.okWide Try.prog W .any base t v := hval0
  have hsz : (DataW.weightsEach Try.prog (Try.f6.params.toList ++ Rows.imageJoinsSpec.plain.varTypes Try.prog) (ds ++ gs)).all (· ≤ reachBytes) = true := hsz0
  have hW' := hW
  obtain ⟨p, q, hA0, hV, rfl, hfz, hnd⟩ := hW
  have hA : DataW.TrodAll enc Try.prog W 0 (fun _ => true) true Try.f6.params.toList args.toList ds p := hA0
  rw [Try.params6] at hA hval hsz
  obtain ⟨v0, v1, d0, d1, p0, p1, rfl, rfl, rfl, h0, h1⟩ := trodAll_two hA
  obtain ⟨rfl, rfl⟩ := trodVars_none hV
  have k0 := h0
  have k1 := h1
  have lt0 : ∀ x ∈ p0, x.block < W.heap.size := by obtain ⟨m, hm⟩ := k0; exact DataW.trod_lt m _ _ _ hm
  have lt1 : ∀ x ∈ p1, x.block < W.heap.size := by obtain ⟨m, hm⟩ := k1; exact DataW.trod_lt m _ _ _ hm
  obtain ⟨ao, len, cap, rfl⟩ := okWide_slice Try.underlying36 (hval 0 36 v0 rfl rfl)
  obtain ⟨bo, len', cap', rfl⟩ := okWide_slice Try.underlying36 (hval 1 36 v1 rfl rfl)
  obtain ⟨a, ha, _⟩ := open_ws h0
  obtain ⟨b, hb, _⟩ := open_ws h1
  obtain ⟨ha0, hwa⟩ := open_ws2 h0
  obtain ⟨hb0, hwb⟩ := open_ws2 h1
  have hla := ha.len
  have hlb := hb.len
  have hlA : len ≤ 4611686018427387903 := by
    rcases hwa with h | ⟨es, sp, rfl, he⟩
    · omega
    · have := sized_slice hsz (j := 0) (t := 36) (e := 53) rfl rfl Try.underlying36
      rw [Try.bytes53] at this
      unfold reachBytes at this
      omega
  have hlB : len' ≤ 4611686018427387903 := by
    rcases hwb with h | ⟨es, sp, rfl, he⟩
    · omega
    · have := sized_slice hsz (j := 1) (t := 36) (e := 53) rfl rfl Try.underlying36
      rw [Try.bytes53] at this
      unfold reachBytes at this
      omega
  clear hA0 hval0
  refine (joins_at W _ _ a b ha hb (fun n c h => by cases h; exact ha0 rfl) (fun n c h => by cases h; exact hb0 rfl) (by omega) (by omega)).mono fun e W' ⟨he, hk⟩ => ?_
  subst he
  have bel := hk.below
  exact ⟨_, rfl, _, _, _, [], _, [], hW', trodAll_mk1 (shut_bool Try.underlying4 _), (trodAll_cons_mk (Below.trod Try.laidOutK (by kernel_rfl) (of_decide_eq_true (by kernel_rfl)) k0 bel lt0) (trodAll_cons_mk (Below.trod Try.laidOutK (by kernel_rfl) (of_decide_eq_true (by kernel_rfl)) k1 bel lt1) trodAll_mk0)), rfl, bel.frame _, fun h => by cases h⟩

theorem imageJoins_holds : Rows.ImageJoinsSaid :=
  OpenClaim.holds_of_wide 6 Try.f6 rfl rfl rfl rfl rfl rfl rfl ⟨rfl, rfl, rfl, rfl, rfl⟩ rfl rfl rfl rfl rfl (by kernel_rfl) Try.func6 (by kernel_rfl)
    (of_decide_eq_true (by kernel_rfl)) (by unfold Func.isWrapper; first | (rw [if_pos (by decide +kernel)]; kernel_rfl) | (rw [if_neg (by decide +kernel)]; exact ⟨rfl, rfl⟩))
    (fun os started H enc _ => joins_lifted os started H enc)
end Go.Proofs.Ytlpjhgcafkdhdaa
