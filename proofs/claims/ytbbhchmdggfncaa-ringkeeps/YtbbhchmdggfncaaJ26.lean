/-
  What Open finds: entries of segments, one after the other, while each ends in a switch. Plain functions over lists; no condition beyond each law's own premises.
-/
import Derived.Test.YtbbhchmdggfncaaJ25
namespace Go.Proofs.Ytbbhchmdggfncaa
open Go.RowKit Go.Shelf
set_option linter.unusedSimpArgs false
set_option linter.unusedVariables false
set_option maxRecDepth 100000

/-- Where the end is, which the least epoch is, and whether the last one was a switch, behind some entries. -/
def stO (en le : Int) : List En → Int × Int × Bool
  | [] => (en, le, false)
  | x :: l => l.foldl (fun _ y => (y.lsn + y.n, y.ep, decide (y.rc.kind = 2))) (x.lsn + x.n, x.ep, decide (x.rc.kind = 2))
theorem stO_snoc (en le : Int) (l : List En) (x : En) : stO en le (l ++ [x]) = (x.lsn + x.n, x.ep, decide (x.rc.kind = 2)) := by
  cases l with
  | nil => rfl
  | cons y l => simp [stO, List.foldl_append]
theorem stO_nil (en le : Int) : stO en le [] = (en, le, false) := rfl
/-- The place behind which the next segment begins. -/
def nextO (sz : Nat) (en : Int) : Int := (en - 1) - (en - 1) % sz + sz
def opRun (sz : Nat) (ep : Int) (rd : Nat → List Nat) : Nat → Int → Int → List En × Int
  | 0, en, _ => ([], en)
  | j + 1, en, le =>
    let es := walkB sz ep (rd (en.toNat / sz)) (sz + 1) (en.toNat % sz) en le
    let s := stO en le es
    if s.2.2 then (es ++ (opRun sz ep rd j (nextO sz s.1) s.2.1).1, (opRun sz ep rd j (nextO sz s.1) s.2.1).2) else (es, s.1)
/-- The entries of a segment lie behind the place, and not too far. -/
theorem walkB_in {size : Nat} {most : Int} {B : List Nat} : ∀ (k sector : Nat) (place least : Int), 0 ≤ place → place + size - sector ≤ 1000000000 → sector ≤ size → size ≤ 64 → ∀ x ∈ walkB size most B k sector place least,
    place ≤ x.lsn ∧ x.lsn ≤ place + size - sector ∧ 1 ≤ x.n ∧ x.n ≤ 65536 ∧ x.ep ≤ most
  | 0, _, _, _, _, _, _, _, x, hx => by simp [walkB] at hx
  | k + 1, sector, place, least, h0, h1, h2, h3, x, hx => by
    rw [walkB] at hx
    split at hx
    case isFalse => simp at hx
    rename_i hs
    cases hst : standsN place (B.drop (64 * sector)) with
    | none => rw [hst] at hx; simp at hx
    | some t =>
      obtain ⟨e, n, r⟩ := t
      rw [hst] at hx
      simp only at hx
      have hn := stands_num ⟨h0, by omega⟩ hst
      split at hx
      case isFalse => simp at hx
      rename_i hb
      rcases List.mem_cons.1 hx with rfl | hx
      · exact ⟨by simp only; omega, by simp only; omega, hn.1, hn.2, hb.2.2⟩
      · split at hx
        case isTrue => simp at hx
        by_cases hfit : sector + n.toNat ≤ size
        · have ih := walkB_in k (sector + n.toNat) (place + n) e (by omega) (by omega) hfit h3 x hx
          exact ⟨by omega, by omega, ih.2.2.1, ih.2.2.2.1, ih.2.2.2.2⟩
        · cases k with
          | zero => simp [walkB] at hx
          | succ k =>
            rw [walkB, if_neg (by omega)] at hx
            simp at hx
theorem stO_mem (en le : Int) : ∀ {l : List En}, l ≠ [] → ∃ x ∈ l, stO en le l = (x.lsn + x.n, x.ep, decide (x.rc.kind = 2)) := by
  intro l hl
  have h := List.dropLast_concat_getLast hl
  obtain ⟨x, hx⟩ : ∃ x, l.getLast hl = x := ⟨_, rfl⟩
  rw [hx] at h
  refine ⟨x, by rw [← hx]; exact List.getLast_mem hl, ?_⟩
  rw [← h]
  exact stO_snoc _ _ _ _
end Go.Proofs.Ytbbhchmdggfncaa
