/-
  Results that lie in memory; the reference's types.
-/
import Derived.Test.YtjepiaacaemkhaaRefS
namespace Go.Proofs.Ytjepiaacaemkhaa
open Go.RowKit Go.Shelf
set_option linter.unusedSimpArgs false
set_option linter.unusedVariables false

theorem Try.info40 : (Try.prog.info? 40).map (fun i => (i.zero, i.size, i.bytes)) = some (some (.agg #[.string ⟨#[]⟩, .slice none 0 0, .int .i64 0, .int .i64 0, .bool false]), 5, 64) := by kernel_rfl
theorem Try.agg40 : aggSize Try.prog 40 5 := by
  obtain ⟨i0, hi, _, hs, _⟩ := info_parts Try.info40
  exact ⟨⟨i0, hi, hs⟩, _, Try.underlying40, .inr ⟨_, rfl⟩⟩
theorem Try.info74 : (Try.prog.info? 74).map (fun i => (i.zero, i.size, i.bytes)) = some (some (.agg #[.int .i64 0, .string ⟨#[]⟩]), 2, 24) := by kernel_rfl
theorem Try.agg74 : aggSize Try.prog 74 2 := by
  obtain ⟨i0, hi, _, hs, _⟩ := info_parts Try.info74
  exact ⟨⟨i0, hi, hs⟩, _, Try.underlying74, .inr ⟨_, rfl⟩⟩
theorem Try.info44 : (Try.prog.info? 44).map (fun i => (i.zero, i.size, i.bytes)) = some (some (.agg #[.int .i64 0, .int .i64 0, .int .i64 0, .slice none 0 0, .slice none 0 0]), 5, 72) := by kernel_rfl
theorem Try.agg44 : aggSize Try.prog 44 5 := by
  obtain ⟨i0, hi, _, hs, _⟩ := info_parts Try.info44
  exact ⟨⟨i0, hi, hs⟩, _, Try.underlying44, .inr ⟨_, rfl⟩⟩

theorem run_loadVar {P : Program} {w : World} {t : TypeId} {n b : Nat} {L : List Value} {e : TypeId} (ht : aggSize P t n) (hb : Blk w b L e) (hl : L.length = n) : (loadVar t ⟨b, 0, none⟩).run P w = .ok (.agg L.toArray) w := by
  have hc := run_loadCells_list (P := P) w ⟨b, 0, none⟩ L (fun j v hj => by rw [addr_add, hb.cell, Nat.zero_add]; exact hj)
  rw [hl] at hc
  simp [loadVar, run_isAgg ht, run_sizeOf ht, hc]

theorem results_cell {P : Program} {fn : Func} {t : Tmp} {ty : TypeId} {n b : Nat} {L : List Value} {e : TypeId} {tmps : Array Value} {w : World} (h : fn.results = #[.cell t ty]) (ht : aggSize P ty n) (hx : tmps.getD t undef = .pointer (some ⟨b, 0, none⟩)) (hb : Blk w b L e) (hl : L.length = n) :
    (results fn tmps).run P w = .ok (.agg L.toArray) w := by
  have hv := run_loadVar (P := P) ht hb hl
  simp only [Array.getD_eq_getD_getElem?] at hx
  simp [results, h, hx, hv, asAddr]
theorem results_cell_tmp {P : Program} {fn : Func} {t u : Tmp} {ty : TypeId} {n b : Nat} {L : List Value} {e : TypeId} {tmps : Array Value} {w : World} {v : Value} (h : fn.results = #[.cell t ty, .tmp u]) (ht : aggSize P ty n) (hx : tmps.getD t undef = .pointer (some ⟨b, 0, none⟩)) (hb : Blk w b L e) (hl : L.length = n) (hu : tmps.getD u undef = v) :
    (results fn tmps).run P w = .ok (.tuple #[.agg L.toArray, v]) w := by
  have hv := run_loadVar (P := P) ht hb hl
  simp only [Array.getD_eq_getD_getElem?] at hx hu
  simp [results, h, hx, hv, hu, asAddr]

end Go.Proofs.Ytjepiaacaemkhaa
