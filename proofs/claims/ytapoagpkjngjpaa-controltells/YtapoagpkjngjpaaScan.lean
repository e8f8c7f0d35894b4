/-
  A pen's Bytes and Padded; a scan: New, Err, Left.
-/
import Derived.Test.YtapoagpkjngjpaaPen
namespace Go.Proofs.Ytapoagpkjngjpaa
open Go.RowKit Go.Shelf
set_option linter.unusedSimpArgs false
set_option linter.unusedVariables false
set_option maxRecDepth 100000

theorem bytes_nil (w : World) : Calls Try.prog 31 #[.pointer none] w fun e w' => e = .returned (.slice none 0 0) ∧ w = w' := by
  go_enter Try.func31, Try.ntmps31
  go_wp2
  go_ret
  exact ⟨rfl, rfl⟩
theorem bytes_at (w : World) (p : Nat) (v : Value) (A : List Nat) (hp : PenAt w p v A) (hl : A.length ≤ 90000000) :
    Calls Try.prog 31 #[.pointer (some ⟨p, 0, none⟩)] w fun e w' => ∃ v', e = .returned v' ∧ Src w' v' A ∧ Kept (fun _ => False) w w' := by
  have HT := hide (tell_at w v A hp.2.src 0 (by omega))
  have hc := hp.1.cell 0
  simp at hc
  clear hp
  go_enter Try.func31, Try.ntmps31
  go_wp2_with fail
  refine HT.out.mono ?_
  rintro e w1 ⟨v1, rfl, hs, hk⟩
  have HS := hide hs
  clear hs
  go_wp2
  go_ret
  exact ⟨v1, rfl, by simpa using HS.out, hk⟩
theorem bytes_pn (w0 w : World) (p : Nat) (A : List Nat) (hp : Pn w0 w p A) (hl : A.length ≤ 90000000) :
    Calls Try.prog 31 #[.pointer (some ⟨p, 0, none⟩)] w fun e w' => ∃ v', e = .returned v' ∧ Src w' v' A ∧ Kept (fun _ => False) w w' := by
  obtain ⟨_, _, v, h, _⟩ := hp
  exact bytes_at w p v A h hl

theorem miss_le (l : Nat) {n : Int} (h : n ≤ 1000) : missN l n ≤ 1000 := by
  unfold missN
  split
  · omega
  · split <;> omega
set_option maxHeartbeats 1000000 in
theorem padded_at (w : World) (p : Nat) (v : Value) (A : List Nat) (hp : PenAt w p v A) (hl : A.length ≤ 90000000) (n : Int) (hn : n ≤ 1000) :
    Calls Try.prog 53 #[.pointer (some ⟨p, 0, none⟩), .int .i64 n] w fun e w' => ∃ v', e = .returned v' ∧ Src w' v' (padN A n) ∧ Kept (fun _ => False) w w' := by
  have hmi := miss_le A.length hn
  have HM := hide (missing_at w A.length n (by omega) (by omega))
  have HT := hide (tell_at w v A hp.2.src (missN A.length n) (by omega))
  have HP : Hid (padN A n = A ++ List.replicate (missN A.length n) 0) := hide rfl
  have hc := hp.1.cell 0
  simp at hc
  obtain ⟨bo, c, rfl⟩ := hp.slice
  have hw : IntKind.i64.wrap (2147483647 - (A.length : Int)) = 2147483647 - (A.length : Int) := by rw [IntKind.wrap_i64]; omega
  have hle : ¬ ((missN A.length n : Nat) : Int) > 2147483647 - (A.length : Int) := by omega
  have hle2 : ¬ (2147483647 - (A.length : Int) < ((missN A.length n : Nat) : Int)) := by omega
  clear hp
  generalize missN A.length n = q at *
  go_enter Try.func53, Try.ntmps53
  go_wp2_with fail
  refine HM.out.mono ?_
  rintro e w1 ⟨rfl, rfl⟩
  go_wp2_with fail
  refine HT.out.mono ?_
  rintro e w1 ⟨v1, rfl, hs, hk⟩
  have HS := hide hs
  clear hs
  go_wp2
  go_ret
  exact ⟨v1, rfl, by rw [HP.out]; exact HS.out, hk⟩

/-- A scan at s: what is left (in the slice v), the error. -/
def ScanAt (w : World) (s : Nat) (v : Value) (B : List Nat) (E : Int) : Prop := Blk w s [v, .int .i64 E] 87 ∧ Src w v B
theorem ScanAt.slice {w : World} {s : Nat} {v : Value} {B : List Nat} {E : Int} (h : ScanAt w s v B E) : ∃ bo c, v = .slice bo B.length c := by
  obtain ⟨bo, c, e, _⟩ := h.2
  exact ⟨bo, c, e⟩
theorem ScanAt.kept {w w' : World} {s : Nat} {v : Value} {B : List Nat} {E : Int} (h : ScanAt w s v B E) (hk : Kept (fun _ => False) w w') : ScanAt w' s v B E := ⟨hk.blk h.1 (fun h => h), h.2.kept hk⟩
/-- No byte lies in a scan's block. -/
theorem ScanAt.nobyte {w : World} {s : Nat} {v : Value} {B : List Nat} {E : Int} (h : ScanAt w s v B E) : ∀ k, k = s → ∀ i n, w.cell? ⟨k, i, none⟩ ≠ some (.int .u8 n) := by
  intro k hk i n e
  subst hk
  obtain ⟨bo, c, rfl⟩ := h.slice
  rw [h.1.cell] at e
  match i with
  | 0 => simp at e
  | 1 => simp at e
  | i + 2 => simp at e
theorem built54 (bo : Option Addr) (n c : Nat) : Try.prog.built 87 [(0, .slice bo n c)] = some #[.slice bo n c, .int .i64 0] := by rfl
theorem r_build54 {ρ : Operand → Value} {w : World} {dst : Option Tmp} {ty : TypeId} {pos : String} {aft : Array Edge} {gd : Option (Nat × Bool)} {x : Operand} {bo : Option Addr} {n c : Nat} (hx : ρ x = .slice bo n c) :
    (execOp ρ ⟨dst, .build 87 #[(0, x)], ty, pos, aft, gd⟩).run Try.prog w = .ok (.value (.agg #[.slice bo n c, .int .i64 0])) w := by
  have hr := run_build (P := Try.prog) w 87 #[(0, .slice bo n c)] _ (by simpa using built54 bo n c)
  simp [execOp, hx, hr]

set_option maxHeartbeats 1000000 in
theorem new_at (w : World) (v : Value) (B : List Nat) (hs : Src w v B) (hl : B.length ≤ 90000000) :
    Calls Try.prog 22 #[v] w fun e w' => ∃ s v', e = .returned (.pointer (some ⟨s, 0, none⟩)) ∧ ScanAt w' s v' B 0 ∧ Kept (fun _ => False) w w' ∧ w.heap.size ≤ s := by
  have HT := hide (tell_at w v B hs 0 (by omega))
  clear hs
  go_enter Try.func22, Try.ntmps22
  go_wp2_with fail
  refine HT.out.mono ?_
  rintro e w1 ⟨v1, rfl, hs, hk⟩
  rw [List.replicate_zero, List.append_nil] at hs
  have HS := hide hs
  obtain ⟨bo, c, e, _⟩ := hs
  subst e
  go_wp2_with (with_reducible refine stop_build 87 ?_)
  refine hide ?_
  refine wpList_run rfl (r_build54 rfl) ?_
  refine aw_box (v := .agg #[.slice bo B.length c, .int .i64 0]) rfl ?_
  intro w2 hb hk2 hz
  have HB : Hid (ScanAt w2 w1.heap.size (.slice bo B.length c) B 0) := hide ⟨hb, HS.out.kept hk2⟩
  have hkk := hk.trans hk2 (fun _ _ h => h)
  have hsz := hk.size
  generalize w1.heap.size = s at *
  clear hb hk2 hz
  go_wp2
  go_ret
  exact ⟨s, _, rfl, HB.out, hkk, hsz⟩

theorem err_nil (w : World) : Calls Try.prog 24 #[.pointer none] w fun e w' => e = .returned (.int .i64 1) ∧ w = w' := by
  go_enter Try.func24, Try.ntmps24
  go_wp2
  go_ret
  exact ⟨rfl, rfl⟩
theorem err_at (w : World) (s : Nat) (v : Value) (B : List Nat) (E : Int) (h : ScanAt w s v B E) : Calls Try.prog 24 #[.pointer (some ⟨s, 0, none⟩)] w fun e w' => e = .returned (.int .i64 E) ∧ w = w' := by
  have hc := h.1.cell 1
  simp at hc
  clear h
  go_enter Try.func24, Try.ntmps24
  go_wp2
  go_ret
  exact ⟨rfl, rfl⟩
theorem left_nil (w : World) : Calls Try.prog 25 #[.pointer none] w fun e w' => e = .returned (.int .i64 0) ∧ w = w' := by
  go_enter Try.func25, Try.ntmps25
  go_wp2
  go_ret
  exact ⟨rfl, rfl⟩
theorem left_at (w : World) (s : Nat) (v : Value) (B : List Nat) (E : Int) (h : ScanAt w s v B E) : Calls Try.prog 25 #[.pointer (some ⟨s, 0, none⟩)] w fun e w' => e = .returned (.int .i64 B.length) ∧ w = w' := by
  have hc := h.1.cell 0
  simp at hc
  obtain ⟨bo, c, rfl⟩ := h.slice
  clear h
  go_enter Try.func25, Try.ntmps25
  go_wp2
  go_ret
  exact ⟨rfl, rfl⟩

end Go.Proofs.Ytapoagpkjngjpaa
