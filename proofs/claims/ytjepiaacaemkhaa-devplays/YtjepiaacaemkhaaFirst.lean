/-
  'first', the statements' own first line: it answers true, and touches nothing that was there.
-/
import Derived.Test.YtjepiaacaemkhaaDv
namespace Go.Proofs.Ytjepiaacaemkhaa
open Go.RowKit Go.Shelf
set_option linter.unusedSimpArgs false
set_option linter.unusedVariables false

def b7 : List Value := .int .u8 7 :: List.replicate 63 (.int .u8 0)
theorem b7_byte : ∀ x ∈ b7, isByte x := by
  intro x hx
  rcases List.mem_cons.1 hx with rfl | hx
  · exact ⟨7, rfl, by decide, by decide⟩
  · rw [List.eq_of_mem_replicate hx]; exact isByte.zero
def q1 : DS := (DS.new 3).written 1 b7 1
def q2 : DS := q1.crashed []
def q3 : DS := q2.written 2 b7 1
def q4 : DS := q3.flushed
def q5 : DS := q4.crashed []

set_option maxRecDepth 100000 in
set_option maxHeartbeats 4000000 in
theorem first_any (w : World) : Calls Try.prog 6 #[] w fun e w' => e = .returned (.bool true) ∧ Kept (fun _ => False) w w' := by
  obtain ⟨i5, hi5, hz5, hs5, hb5⟩ := info_parts Try.info5
  have Hi5 := hide hi5
  have Hz5 := hide hz5
  have Hs5 := hide hs5
  have Hb5 := hide hb5
  clear hi5 hz5 hs5 hb5
  go_enter Try.func6, Try.ntmps6
  go_wp2_with fail
  refine (Dv.new w w 3 (by decide) (by decide) (Kept.refl _ _) [] (by simp)).mono ?_
  rintro e w1 ⟨b, rfl, h1⟩
  go_wp2_with ((with_reducible refine aw_make (n := 64) 1 (by decide) Try.underlying28 Hi5.out Hz5.out rfl Hs5.out rfl rfl (by rw [Hb5.out]; decide) (by unfold maxLen; decide) ?_); intro w2 hw2 hk2 hz2; have Hz2 := hide hz2; clear hz2; have c0 : w2.cell? ⟨w1.heap.size, 0, none⟩ = some (.int .u8 0) := hw2.cell 0; have f0 := hw2.frozen 0)
  have hkx : Kept (fun _ => False) w1 (w2.setCell ⟨w1.heap.size, 0, none⟩ (.int .u8 7)) := hk2.trans (Kept.setCell (S := fun k => k = w1.heap.size) w2 ⟨w1.heap.size, 0, none⟩ _ rfl) (fun i hi h => by omega)
  have h3 := h1.more hkx w1.heap.size b7 5 (hw2.setCell 0 _) (Nat.le_refl _)
  clear hw2 hk2 c0 f0 hkx
  generalize w2.setCell ⟨w1.heap.size, 0, none⟩ (.int .u8 7) = w3 at *
  refine (h3.write 1 1 64 w1.heap.size 0 b7 b7 5 (by simp) rfl rfl b7_byte (by decide) (by decide) rfl (by decide) (by decide) (by decide)).mono ?_
  rintro e w4 ⟨rfl, h4⟩
  go_wp2_with fail
  refine (h4.read 1 1 rfl (by decide)).mono ?_
  rintro e w5 ⟨gx, rfl, h5⟩
  go_wp2_with fail
  refine h5.crash_nil.mono ?_
  rintro e w6 ⟨rfl, h6⟩
  go_wp2_with fail
  refine (h6.read 1 1 rfl (by decide)).mono ?_
  rintro e w7 ⟨gy, rfl, h7⟩
  go_wp2_with fail
  refine (h7.write 2 1 64 w1.heap.size 0 b7 b7 5 (by simp) rfl rfl b7_byte (by decide) (by decide) rfl (by decide) (by decide) (by decide)).mono ?_
  rintro e w8 ⟨rfl, h8⟩
  go_wp2_with fail
  refine (h8.flush (by decide)).mono ?_
  rintro e w9 ⟨he, h9⟩
  obtain rfl : e = .returned (.int .i64 0) := he.trans rfl
  clear he
  go_wp2_with fail
  refine h9.crash_nil.mono ?_
  rintro e w10 ⟨rfl, h10⟩
  go_wp2_with fail
  refine (h10.read 2 1 rfl (by decide)).mono ?_
  rintro e w11 ⟨gz, rfl, h11⟩
  have cx : w11.cell? ⟨gx, 0, none⟩ = some (.int .u8 7) := ((h11.blk (gx, part q1.view 1 1, 5) (by simp [q1])).cell 0).trans (by rfl)
  have cy : w11.cell? ⟨gy, 0, none⟩ = some (.int .u8 0) := ((h11.blk (gy, part q2.view 1 1, 5) (by simp [q1, q2])).cell 0).trans (by rfl)
  have cz : w11.cell? ⟨gz, 0, none⟩ = some (.int .u8 7) := ((h11.blk (gz, part q5.view 2 1, 5) (by simp [q1, q2, q3, q4, q5])).cell 0).trans (by rfl)
  have hcl := h11.calls
  have HCL : Hid (Calls Try.prog 16 #[.pointer (some ⟨b, 0, none⟩)] w11 fun e w' => e = .returned (.int .i64 3) ∧ w11 = w') := hide (hcl.mono fun e w' h => ⟨h.1.trans rfl, h.2⟩)
  have HSZ := hide h11.size
  have HIM := hide h11.image
  clear hcl
  go_wp2_with (first
    | (go_at_call 14; refine HSZ.out.mono ?_; rintro e w' ⟨rfl, rfl⟩)
    | (go_at_call 16; refine HCL.out.mono ?_; rintro e w' ⟨rfl, rfl⟩)
    | (go_at_call 17; refine HIM.out.mono ?_; rintro e w12 ⟨g, rfl, h12⟩))
  go_ret
  exact ⟨rfl, h12.kept⟩

end Go.Proofs.Ytjepiaacaemkhaa
