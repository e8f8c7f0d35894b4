/-
  Results that lie in memory; the reference's types.
-/
import Derived.Test.YtnlcmgdeohbmoaaJ31
namespace Go.Proofs.Ytnlcmgdeohbmoaa.D
open Go.RowKit Go.Shelf
set_option linter.unusedSimpArgs false
set_option linter.unusedVariables false
set_option maxRecDepth 100000

theorem Try.info33 : (Try.prog.info? 33).map (fun i => (i.zero, i.size, i.bytes)) = some (some (.agg #[.string ⟨#[]⟩, .slice none 0 0, .int .i64 0, .int .i64 0, .bool false]), 5, 64) := by kernel_rfl
theorem Try.agg33 : aggSize Try.prog 33 5 := by
  obtain ⟨i0, hi, _, hs, _⟩ := info_parts Try.info33
  exact ⟨⟨i0, hi, hs⟩, _, Try.underlying33, .inr ⟨_, rfl⟩⟩
theorem Try.info102 : (Try.prog.info? 102).map (fun i => (i.zero, i.size, i.bytes)) = some (some (.agg #[.int .i64 0, .string ⟨#[]⟩]), 2, 24) := by kernel_rfl
theorem Try.agg102 : aggSize Try.prog 102 2 := by
  obtain ⟨i0, hi, _, hs, _⟩ := info_parts Try.info102
  exact ⟨⟨i0, hi, hs⟩, _, Try.underlying102, .inr ⟨_, rfl⟩⟩
theorem run_loadVar {P : Program} {w : World} {t : TypeId} {n b : Nat} {L : List Value} {e : TypeId} (ht : aggSize P t n) (hb : Blk w b L e) (hl : L.length = n) : (loadVar t ⟨b, 0, none⟩).run P w = .ok (.agg L.toArray) w := by
  have hc := run_loadCells_list (P := P) w ⟨b, 0, none⟩ L (fun j v hj => by rw [addr_add, hb.cell, Nat.zero_add]; exact hj)
  rw [hl] at hc
  simp [loadVar, run_isAgg ht, run_sizeOf ht, hc]

theorem results_cell {P : Program} {fn : Func} {t : Tmp} {ty : TypeId} {n b : Nat} {L : List Value} {e : TypeId} {tmps : Array Value} {w : World} (h : fn.results = #[.cell t ty]) (ht : aggSize P ty n) (hx : tmps.getD t undef = .pointer (some ⟨b, 0, none⟩)) (hb : Blk w b L e) (hl : L.length = n) :
    (results fn tmps).run P w = .ok (.agg L.toArray) w := by
  have hv := run_loadVar (P := P) ht hb hl
  simp only [Array.getD_eq_getD_getElem?] at hx
  simp [results, h, hx, hv, asAddr]
theorem results_cell_tmp {P : Program} {fn : Func} {t u : Tmp} {ty : TypeId} {n b : Nat} {L : List Value} {e : TypeId} {tmps : Array Value} {w : World} {v : Value} (h : fn.results = #[.cell t ty, .tmp u]) (ht : aggSize P ty n) (hx : tmps.getD t undef = .pointer (some ⟨b, 0, none⟩)) (hb : Blk w b L e) (hl : L.length = n) (hu : tmps.getD u undef = v) :
    (results fn tmps).run P w = .ok (.tuple #[.agg L.toArray, v]) w := by
  have hv := run_loadVar (P := P) ht hb hl
  simp only [Array.getD_eq_getD_getElem?] at hx hu
  simp [results, h, hx, hv, hu, asAddr]

end Go.Proofs.Ytnlcmgdeohbmoaa.D

/-
  The small functions of the reference: there, call, New.
-/
namespace Go.Proofs.Ytnlcmgdeohbmoaa.D
open Go.RowKit Go.Shelf
set_option linter.unusedSimpArgs false
set_option linter.unusedVariables false
set_option maxRecDepth 100000

/-- Is a call done? -/
def DS.goes (s : DS) : Bool := decide (s.left ≠ 0)
/-- The reference's device, as a value; its waiting sectors are the slice rv. -/
def refA (s : DS) (rv : Value) : Value := .agg #[.string (strV s.st), rv, .int .i64 s.calls, .int .i64 s.left, .bool s.off]

theorem _root_.Go.Proofs.Ytnlcmgdeohbmoaa.Kept.setN {w0 w : World} (h : Kept (fun _ => False) w0 w) {a : Addr} {v : Value} (ha : w0.heap.size ≤ a.block) : Kept (fun _ => False) w0 (w.setCell a v) :=
  h.trans (Kept.setCell (S := fun k => k = a.block) w a v rfl) (fun i hi e => by omega)
theorem _root_.Go.Proofs.Ytnlcmgdeohbmoaa.Kept.allocN {w0 w : World} (h : Kept (fun _ => False) w0 w) {o : Obj} : Kept (fun _ => False) w0 (w.alloc o) := h.trans (Kept.alloc _ w o) (fun _ _ h => h)

set_option maxHeartbeats 1000000 in
theorem there_any (w : World) (s : DS) (n : Nat) (hl : s.st.length = 64 * n) (hn : n ≤ 4096) (ro : Option Addr) (rl rc : Nat) (a m : Int) (ha : a ≤ 9223372036854775807) :
    Calls Try.prog 63 #[refA s (.slice ro rl rc), .int .i64 a, .int .i64 m] w fun e w' => e = .returned (.bool (hasB n a m)) ∧ Kept (fun _ => False) w w' := by
  have hsz : (strV s.st).size = 64 * n := by rw [strV_size, hl]
  have hq : ((64 * n : Nat) : Int) / 64 = (n : Int) := by omega
  clear hl
  unfold refA
  generalize strV s.st = S at *
  by_cases h1 : 0 ≤ a
  · by_cases h2 : 0 ≤ m
    · by_cases h3 : a ≤ n
      · by_cases h4 : m ≤ n - a
        · have HB : Hid (hasB n a m = true) := hide (by simp [hasB, h1, h2, h4])
          go_enter Try.func63, Try.ntmps63
          go_wp2
          go_ret
          exact ⟨by rw [HB.out]; rfl, Kept.alloc _ _ _⟩
        · have HB : Hid (hasB n a m = false) := hide (by simp [hasB, h4])
          go_enter Try.func63, Try.ntmps63
          go_wp2
          go_ret
          exact ⟨by rw [HB.out]; rfl, Kept.alloc _ _ _⟩
      · have HB : Hid (hasB n a m = false) := hide (by simp [hasB]; intros; omega)
        go_enter Try.func63, Try.ntmps63
        go_wp2
        go_ret
        exact ⟨by rw [HB.out]; rfl, Kept.alloc _ _ _⟩
    · have HB : Hid (hasB n a m = false) := hide (by simp [hasB, h2])
      go_enter Try.func63, Try.ntmps63
      go_wp2
      go_ret
      exact ⟨by rw [HB.out]; rfl, Kept.alloc _ _ _⟩
  · have HB : Hid (hasB n a m = false) := hide (by simp [hasB, h1])
    go_enter Try.func63, Try.ntmps63
    go_wp2
    go_ret
    exact ⟨by rw [HB.out]; rfl, Kept.alloc _ _ _⟩

set_option maxHeartbeats 1000000 in
theorem call_any (w : World) (s : DS) (ro : Option Addr) (rl rc : Nat) (l1 : -1 ≤ s.left) (l2 : s.left ≤ 9223372036854775807) (hc : s.calls < 4611686018427387904) :
    Calls Try.prog 64 #[refA s (.slice ro rl rc)] w fun e w' => e = .returned (.tuple #[refA s.spent (.slice ro rl rc), .bool s.goes]) ∧ Kept (fun _ => False) w w' := by
  by_cases hz : s.left = 0
  · have HS : Hid (refA s.spent (.slice ro rl rc) = .agg #[.string (strV s.st), .slice ro rl rc, .int .i64 s.calls, .int .i64 s.left, .bool true]) := hide (by simp [DS.spent, hz, refA])
    have HD : Hid (s.goes = false) := hide (by simp [DS.goes, hz])
    have hzb : (s.left == 0) = true := by simp [hz]
    clear hz
    unfold refA
    generalize strV s.st = S at *
    go_enter Try.func64, Try.ntmps64
    go_wp2
    rw [show (Value.agg #[.string (strV s.spent.st), .slice ro rl rc, .int .i64 s.spent.calls, .int .i64 s.spent.left, .bool s.spent.off]) = .agg #[.string S, .slice ro rl rc, .int .i64 s.calls, .int .i64 s.left, .bool true] from HS.out, HD.out]
    exact bodyPost_ret (v := .tuple #[.agg #[.string S, .slice ro rl rc, .int .i64 s.calls, .int .i64 s.left, .bool true], .bool false]) (by simp [results, Try.results36, go_sem]) rfl ⟨rfl, (by repeat (first | exact Kept.refl _ _ | refine Kept.setN ?_ (by simp) | refine Kept.allocN ?_))⟩
  · have HD : Hid (s.goes = true) := hide (by simp [DS.goes, hz])
    have hzb : (s.left == 0) = false := by simp [hz]
    by_cases hp : 0 < s.left
    · have HS : Hid (refA s.spent (.slice ro rl rc) = .agg #[.string (strV s.st), .slice ro rl rc, .int .i64 (s.calls + 1), .int .i64 (s.left - 1), .bool s.off]) := hide (by simp [DS.spent, hz, hp, refA])
      clear hz
      unfold refA
      generalize strV s.st = S at *
      go_enter Try.func64, Try.ntmps64
      go_wp2
      rw [show (Value.agg #[.string (strV s.spent.st), .slice ro rl rc, .int .i64 s.spent.calls, .int .i64 s.spent.left, .bool s.spent.off]) = .agg #[.string S, .slice ro rl rc, .int .i64 (s.calls + 1), .int .i64 (s.left - 1), .bool s.off] from HS.out, HD.out]
      exact bodyPost_ret (v := .tuple #[.agg #[.string S, .slice ro rl rc, .int .i64 (s.calls + 1), .int .i64 (s.left - 1), .bool s.off], .bool true]) (by simp [results, Try.results36, go_sem]) rfl ⟨rfl, (by repeat (first | exact Kept.refl _ _ | refine Kept.setN ?_ (by simp) | refine Kept.allocN ?_))⟩
    · have HS : Hid (refA s.spent (.slice ro rl rc) = .agg #[.string (strV s.st), .slice ro rl rc, .int .i64 (s.calls + 1), .int .i64 s.left, .bool s.off]) := hide (by simp [DS.spent, hz, hp, refA])
      clear hz
      unfold refA
      generalize strV s.st = S at *
      go_enter Try.func64, Try.ntmps64
      go_wp2
      rw [show (Value.agg #[.string (strV s.spent.st), .slice ro rl rc, .int .i64 s.spent.calls, .int .i64 s.spent.left, .bool s.spent.off]) = .agg #[.string S, .slice ro rl rc, .int .i64 (s.calls + 1), .int .i64 s.left, .bool s.off] from HS.out, HD.out]
      exact bodyPost_ret (v := .tuple #[.agg #[.string S, .slice ro rl rc, .int .i64 (s.calls + 1), .int .i64 s.left, .bool s.off], .bool true]) (by simp [results, Try.results36, go_sem]) rfl ⟨rfl, (by repeat (first | exact Kept.refl _ _ | refine Kept.setN ?_ (by simp) | refine Kept.allocN ?_))⟩

set_option maxHeartbeats 1000000 in
theorem refNew_any (w : World) (n : Nat) (hn : n ≤ 60) :
    Calls Try.prog 10 #[.int .i64 n] w fun e w' => e = .returned (refA (DS.new n) (.slice none 0 0)) ∧ Kept (fun _ => False) w w' := by
  obtain ⟨i5, hi5, hz5, hs5, hb5⟩ := info_parts Try.info5
  have Hi5 := hide hi5
  have Hz5 := hide hz5
  have Hs5 := hide hs5
  have Hb5 := hide hb5
  clear hi5 hz5 hs5 hb5
  have hZb : ∀ v ∈ List.replicate (n * 64) (Value.int .u8 0), isByte v := fun v hv => by rw [List.eq_of_mem_replicate hv]; exact isByte.zero
  have HZb := hide hZb
  clear hZb
  go_enter Try.func10, Try.ntmps10
  have hb0 : Blk (w.alloc (.cells #[.string ⟨#[]⟩, .slice none 0 0, .int .i64 0, .int .i64 0, .bool false] 33)) w.heap.size [.string ⟨#[]⟩, .slice none 0 0, .int .i64 0, .int .i64 0, .bool false] 33 := Blk.newA w _ 33
  have hk0 := Kept.alloc (fun _ => False) w (.cells #[.string ⟨#[]⟩, .slice none 0 0, .int .i64 0, .int .i64 0, .bool false] 33)
  go_wp2_with (with_reducible refine stop_make 41 ?_)
  refine hide ?_
  generalize w.alloc (.cells #[.string ⟨#[]⟩, .slice none 0 0, .int .i64 0, .int .i64 0, .bool false] 33) = w0 at *
  refine aw_make (n := n * 64) (kl := .i64) (kc := .i64) 1 (by decide) Try.underlying41 Hi5.out Hz5.out rfl Hs5.out (by simp [Act.eval]; omega) (by simp [Act.eval]; omega) (by rw [Hb5.out]; omega) (by unfold maxLen; omega) ?_
  intro w1 hw1 hk1 hz1
  clear hz1
  have hb1 := hk1.blk hb0 (fun h => h)
  refine wpList_run rfl (r_str (b := w0.heap.size) (so := 0) (len := n * 64) (cap := n * 64) (M := List.replicate (n * 64) (.int .u8 0)) rfl (by have := hw1.cells 0 (n * 64); simpa using this) (by simp) HZb.out) ?_
  go_wp2_with ((with_reducible refine aw_store (M := [.string (strV (List.replicate (n * 64) (.int .u8 0))), .slice none 0 0, .int .i64 0, .int .i64 (-1), .bool false]) Try.agg33 rfl rfl rfl ?_ hb1 (by decide) ?_))
  · intro v hv
    simp at hv
    rcases hv with rfl | rfl | rfl | rfl | rfl <;> rfl
  · intro w2 hw2 hk2 hz2
    have hkk : Kept (fun _ => False) w w2 := (hk0.trans hk1 (fun _ _ h => h)).trans hk2 (fun i hi h => by omega)
    go_wp2
    have hw2' : Blk w2 w.heap.size [.string (strV (List.replicate (n * 64) (.int .u8 0))), .slice none 0 0, .int .i64 0, .int .i64 (-1), .bool false] 33 := by simpa [put] using hw2
    exact bodyPost_ret (results_cell (t := 2) (ty := 33) rfl Try.agg33 rfl hw2' rfl) rfl ⟨rfl, hkk⟩

end Go.Proofs.Ytnlcmgdeohbmoaa.D
