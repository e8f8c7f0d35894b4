/-
  bytes.Equal, sameWrite, slices.EqualFunc; bytes.Clone.
-/
import Derived.Test.YtcdlgaknpmlfeaaRT
namespace Go.Proofs.Ytcdlgaknpmlfeaa
open Go.RowKit Go.Shelf
set_option linter.unusedSimpArgs false
set_option linter.unusedVariables false

set_option maxHeartbeats 1000000 in
theorem equal_at (w : World) (v u : Value) (A B : List Nat) (hA : Src w v A) (hB : Src w u B) (b : Bool) (hb : decide (A = B) = b) : Calls Try.prog 46 #[v, u] w fun e w' => e = .returned (.bool b) ∧ w = w' := by
  have s1 := run_strS hA
  have s2 := run_strS hB
  have HA := hide hA.lt
  have HB := hide hB.lt
  clear hA hB
  by_cases h : A = B
  · obtain rfl : b = true := by rw [← hb]; simp [h]
    subst h
    clear hb
    have hb : decide (strN A = strN A) = true := by simp
    go_enter Try.func46, Try.ntmps46
    go_wp2
    go_ret
    exact ⟨by simp, rfl⟩
  · have hn : ¬ strN A = strN B := fun e => h ((strN_iff HA.out HB.out).1 e)
    obtain rfl : b = false := by rw [← hb]; simp [h]
    clear hb
    have hb : decide (strN A = strN B) = false := by simpa using hn
    clear h
    go_enter Try.func46, Try.ntmps46
    go_wp2
    go_ret
    refine ⟨by try simp; try (intro h; exact hn (by rw [strN_toList, strN_toList] at h; apply ByteArray.ext; rw [strN_data, strN_data, h])), rfl⟩

def sameW (x y : Wv) : Bool := decide (x.blk = y.blk ∧ x.B = y.B)
set_option maxRecDepth 100000 in
set_option maxHeartbeats 2000000 in
theorem sameWrite_at (w : World) (a b : Int) (s t : Sl) (A B : List Nat) (hA : Src w s.v A) (hB : Src w t.v B) (r : Bool) (hr : decide (a = b ∧ A = B) = r) : Calls Try.prog 37 #[.agg #[.int .i64 a, .slice s.a s.n s.c], .agg #[.int .i64 b, .slice t.a t.n t.c]] w fun e w' => e = .returned (.bool r) ∧ Kept (fun _ => False) w w' := by
  obtain ⟨sa, sn, sc⟩ := s
  obtain ⟨ta, tn, tc⟩ := t
  have HA := hide hA
  have HB := hide hB
  clear hA hB
  by_cases h : a = b
  · subst h
    have HD : Hid (decide (A = B) = r) := hide (by rw [← hr]; simp)
    clear hr
    go_enter Try.func37, Try.ntmps37
    go_wp2_with (first
      | ((with_reducible refine aw_box (dst := some 2) (t := 40) (v := .agg #[.int .i64 a, .slice sa sn sc]) rfl ?_); intro w1 hb1 hk1 hz1)
      | ((with_reducible refine aw_box (dst := some 3) (t := 40) (v := .agg #[.int .i64 a, .slice ta tn tc]) rfl ?_); intro w2 hb2 hk2 hz2; have c0 : w2.cell? ⟨w.heap.size, 0, none⟩ = some (.int .i64 a) := (hk2.blk hb1 (fun h => h)).cell 0; have c1 : w2.cell? ⟨w.heap.size, 1, none⟩ = some (.slice sa sn sc) := (hk2.blk hb1 (fun h => h)).cell 1; have d0 : w2.cell? ⟨w1.heap.size, 0, none⟩ = some (.int .i64 a) := hb2.cell 0; have d1 : w2.cell? ⟨w1.heap.size, 1, none⟩ = some (.slice ta tn tc) := hb2.cell 1; have hkk := hide (hk1.trans hk2 (fun _ _ h => h)); clear hb1 hb2 hk1 hk2 hz1 hz2)
      | fail)
    refine (equal_at _ _ _ A B (HA.out.kept hkk.out) (HB.out.kept hkk.out) r HD.out).mono ?_
    rintro e w3 ⟨rfl, rfl⟩
    clear HD
    go_wp2
    go_ret
    exact ⟨by simp, hkk.out⟩
  · obtain rfl : r = false := by rw [← hr]; simp [h]
    clear hr
    go_enter Try.func37, Try.ntmps37
    go_wp2_with (first
      | ((with_reducible refine aw_box (dst := some 2) (t := 40) (v := .agg #[.int .i64 a, .slice sa sn sc]) rfl ?_); intro w1 hb1 hk1 hz1)
      | ((with_reducible refine aw_box (dst := some 3) (t := 40) (v := .agg #[.int .i64 b, .slice ta tn tc]) rfl ?_); intro w2 hb2 hk2 hz2; have c0 : w2.cell? ⟨w.heap.size, 0, none⟩ = some (.int .i64 a) := (hk2.blk hb1 (fun h => h)).cell 0; have c1 : w2.cell? ⟨w.heap.size, 1, none⟩ = some (.slice sa sn sc) := (hk2.blk hb1 (fun h => h)).cell 1; have d0 : w2.cell? ⟨w1.heap.size, 0, none⟩ = some (.int .i64 b) := hb2.cell 0; have d1 : w2.cell? ⟨w1.heap.size, 1, none⟩ = some (.slice ta tn tc) := hb2.cell 1; have hkk := hide (hk1.trans hk2 (fun _ _ h => h)); clear hb1 hb2 hk1 hk2 hz1 hz2)
      | fail)
    go_ret
    exact ⟨by simp, hkk.out⟩

def sameWs : List Wv → List Wv → Bool
  | [], [] => true
  | x :: a, y :: b => sameW x y && sameWs a b
  | _, _ => false
theorem sameWs_iff : ∀ (a b : List Wv), sameWs a b = true ↔ a.map Wv.wr = b.map Wv.wr
  | [], [] => by simp [sameWs]
  | [], y :: b => by simp [sameWs]
  | x :: a, [] => by simp [sameWs]
  | x :: a, y :: b => by
    rw [sameWs, Bool.and_eq_true, sameWs_iff a b, List.map_cons, List.map_cons, List.cons.injEq]
    simp [sameW, Wv.wr]
theorem sameWs_len : ∀ {a b : List Wv}, a.length ≠ b.length → sameWs a b = false
  | [], [], h => absurd rfl h
  | [], y :: b, _ => rfl
  | x :: a, [], _ => rfl
  | x :: a, y :: b, h => by
    rw [sameWs, sameWs_len (a := a) (b := b) (by simpa using h), Bool.and_false]
theorem sameWs_step {a b : List Wv} {k : Nat} (ha : k < a.length) (hb : k < b.length) : sameWs (a.drop k) (b.drop k) = (sameW a[k] b[k] && sameWs (a.drop (k + 1)) (b.drop (k + 1))) := by
  rw [List.drop_eq_getElem_cons ha, List.drop_eq_getElem_cons hb]
  rfl
end Go.Proofs.Ytcdlgaknpmlfeaa
