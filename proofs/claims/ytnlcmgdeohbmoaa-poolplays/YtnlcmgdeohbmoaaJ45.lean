/-
  What the statements ask ahead of everything else.
-/
import Derived.Test.YtnlcmgdeohbmoaaJ30
import Derived.Test.YtnlcmgdeohbmoaaJ44
namespace Go.Proofs.Ytnlcmgdeohbmoaa
open Go.RowKit Go.Shelf
set_option linter.unusedSimpArgs false
set_option linter.unusedVariables false
set_option maxRecDepth 100000

def wF : List Nat := (List.replicate 64 0).set 0 7
theorem wF_len : wF.length = 64 := by simp [wF]
theorem wF_lt : ∀ x ∈ wF, x < 256 := by decide
def wsF : List Wr := [⟨3, wF⟩]
theorem wsF_ok : withE 4 wsF = 0 := by decide
def lF0 : PL := ⟨2, 4, [], []⟩
def sF0 : D.DS := D.DS.new 8
theorem invF : Inv (lF0.putE wsF) sF0 8 := (Inv.new (by decide)).putE wsF
theorem lF1_dirty : (lF0.putE wsF).dirty = [(3, mkBk wF)] := by
  unfold PL.putE
  rw [if_pos (show withE lF0.n wsF = 0 from wsF_ok)]
  rfl
theorem lF1_hand : (lF0.putE wsF).hand = [(3, mkBk wF)] := by
  unfold PL.putE
  rw [if_pos (show withE lF0.n wsF = 0 from wsF_ok)]
  rfl
theorem lF1_n : (lF0.putE wsF).fr = 2 ∧ (lF0.putE wsF).n = 4 := puts_fr lF0 wsF
theorem lF1_get : (lF0.putE wsF).getV sF0 3 = wF := by
  have : getP (lF0.putE wsF).hand ((3 : Nat) : Int) = some (mkBk wF) := (getP_mem invF.sh).2 (by rw [lF1_hand]; simp)
  unfold PL.getV
  rw [this]
  exact mkBk_B wF_len wF_lt
/-- The device behind the Save. -/
def sF1 : D.DS := (lF0.putE wsF).saveD sF0
theorem goodF : Good sF1 8 := invF.save.2.2.1.good
theorem getF : lF0.getE sF1 3 = 0 ∧ lF0.getV sF1 3 = wF := by
  refine ⟨goodF.getE 3, ?_⟩
  have h := invF.save.2.2.2.2.2.1 3 (by rw [lF1_n.2]; decide)
  rw [lF1_n.1, lF1_get] at h
  have hv : lF0.getV sF1 3 = NV (D.part sF1.view (2 + 3) 1) := by
    unfold PL.getV
    have : getP lF0.hand ((3 : Nat) : Int) = none := rfl
    rw [this]
    simp only [goodF.off]
    rfl
  rw [hv]
  show NV (D.part ((lF0.putE wsF).saveD sF0).view (2 + 3) 1) = wF
  rw [h, NV_BV]
theorem imgF : lF0.imgE sF1 = 0 ∧ (lF0.imgK sF1 4).length = 256 := by
  constructor
  · unfold PL.imgE
    rw [if_pos]
    rw [List.all_eq_true]
    intro m _
    simp [goodF.getE m]
  · exact imgK_len (l := lF0) goodF.view (by decide) (k := 4) (by decide) (fun m _ => goodF.getE m)
end Go.Proofs.Ytnlcmgdeohbmoaa

/-
  What the statements ask ahead of everything else, walked.
-/
namespace Go.Proofs.Ytnlcmgdeohbmoaa
open Go.RowKit Go.Shelf
set_option linter.unusedSimpArgs false
set_option linter.unusedVariables false
set_option maxRecDepth 100000

theorem ws_of_blk {w : World} {g g2 : Nat} {p : Int} {B : List Nat} (hg : Blk w g (BV B) 5) (h64 : B.length = 64) (hlt : ∀ x ∈ B, x < 256) (h2 : Blk w g2 [.int .i64 p, .slice (some ⟨g, 0, none⟩) 64 64] 68) : WsAt w (.slice (some ⟨g2, 0, none⟩) 1 1) [⟨p, ⟨some ⟨g, 0, none⟩, 64, 64⟩, B⟩] := by
  refine ⟨⟨_, 1, rfl, Nat.le_refl _, fun _ => ⟨_, 0, rfl, ?_⟩⟩, ?_, by simp⟩
  · have := h2.cells 0 2
    simpa [encE, Wv.ent] using this
  · intro x hx
    simp at hx
    subst hx
    have := src_blk hg (BV_isByte hlt) 64 (by rw [BV_length, h64])
    rwa [NV_BV] at this
theorem run_bs68 {ρ : Operand → Value} {w : World} {dst : Option Tmp} {ty : TypeId} {x : Operand} {pos : String} {aft : Array Edge} {gd : Option (Nat × Bool)} {p : Int} {s : Sl} (hx : ρ x = .agg #[.int .i64 p, .slice s.a s.n s.c]) :
    (execOp ρ ⟨dst, .buildSlice 51 1 #[(0, x)], ty, pos, aft, gd⟩).run Try.prog w = .ok (.value (.slice (some ⟨w.heap.size, 0, none⟩) 1 1)) (w.alloc (.cells [.int .i64 p, .slice s.a s.n s.c].toArray 68)) := by
  obtain ⟨i0, hi0, hz0, hs0, hb0⟩ := info_parts Try.info68
  exact run_buildSlice_one (M := [.int .i64 p, .slice s.a s.n s.c]) Try.underlying51 hi0 hz0 hs0 (by simp) (by simp) (.inl hx)
theorem run_bd68 {ρ : Operand → Value} {w : World} {dst : Option Tmp} {ty : TypeId} {x y : Operand} {pos : String} {aft : Array Edge} {gd : Option (Nat × Bool)} {p : Int} {s : Sl} (hx : ρ x = .int .i64 p) (hy : ρ y = .slice s.a s.n s.c) :
    (execOp ρ ⟨dst, .build 68 #[(0, x), (1, y)], ty, pos, aft, gd⟩).run Try.prog w = .ok (.value (.agg #[.int .i64 p, .slice s.a s.n s.c])) w := by
  obtain ⟨i0, hi0, hz0, hs0, hb0⟩ := info_parts Try.info68
  have h := run_build_two (ρ := ρ) (w := w) (dst := dst) (ty := ty) (pos := pos) (aft := aft) (gd := gd) (x := x) (y := y) (o1 := 0) (s1 := 1) (o2 := 1) (s2 := 1) (M1 := [.int .i64 p]) (M2 := [.slice s.a s.n s.c]) hi0 hz0 Try.underlying68 (by kernel_rfl) hx hy rfl rfl rfl rfl (by simp [Value.cells]) (by simp [Value.cells])
  have e : (put (put (Value.cells (.agg #[.int .i64 0, .slice none 0 0])).toList 0 [.int .i64 p]) 1 [.slice s.a s.n s.c]).toArray = #[.int .i64 p, .slice s.a s.n s.c] := by simp [put, Value.cells]
  rw [e] at h
  exact h
set_option maxHeartbeats 8000000 in
theorem first_at (w : World) : Calls Try.prog 6 #[] w fun e w' => e = .returned (.bool true) ∧ Kept (fun _ => False) w w' := by
  obtain ⟨i5, hi5, hz5, hs5, hb5⟩ := info_parts Try.info5
  have Hi5 := hide hi5
  have Hz5 := hide hz5
  have Hs5 := hide hs5
  have Hb5 := hide hb5
  clear hi5 hz5 hs5 hb5
  go_enter Try.func6, Try.ntmps6
  go_wp2_with fail
  refine (dnew_at w 8 (by decide) (by decide)).mono ?_
  rintro e w1 ⟨db, F, rfl, hk1, hd1, hF1⟩
  have K1 := hide hk1
  have D1 := hide hd1
  have HF := hide hF1
  clear hk1 hd1 hF1
  go_wp2_with fail
  refine (pnew_at w w1 db 8 F K1.out D1.out HF.out 2 4 (by decide) (by decide)).mono ?_
  rintro e w2 ⟨b, rfl, hp2, hk2⟩
  have P2 : Hid (Pw w w2 db 8 sF0 b lF0) := hide hp2
  clear hp2 hk2
  go_wp2_with (first
    | ((with_reducible refine aw_make (n := 64) 1 (by decide) Try.underlying41 Hi5.out Hz5.out rfl Hs5.out rfl rfl (by rw [Hb5.out]; decide) (by decide) ?_); intro w3 hw3 hk3 hz3; have HW3 := hide hw3; have HK3 := hide hk3; clear hw3 hk3 hz3)
    | (with_reducible refine stop_store 5 ?_)
    | fail)
  refine hide ?_
  refine aw_store1 (v := .int .u8 7) Hi5.out Hs5.out rfl rfl rfl rfl HW3.out (by simp) ?_
  intro w4 hw4 hk4 hz4
  have hk24 : Kept (fun _ => False) w2 w4 := HK3.out.trans hk4 (S := fun _ => False) (fun i hi h => by omega)
  have P4 := hide (P2.out.same hk24)
  obtain ⟨g, hg⟩ : ∃ g, g = w2.heap.size := ⟨_, rfl⟩
  have HB4 : Hid (Blk w4 g (BV wF) 5) := hide (by rw [hg]; exact hw4)
  rw [← hg]
  clear hw4 hk4 hz4 hg hk24 HW3 HK3 P2 D1 HF
  try simp only [put_lit, put_none, List.set_cons_succ, List.set_cons_zero]
  go_wp2_with (first | (with_reducible refine stop_build 68 ?_) | fail)
  refine hide ?_
  refine wpList_run rfl (run_bd68 (p := 3) (s := ⟨some ⟨g, 0, none⟩, 64, 64⟩) rfl rfl) ?_
  refine wpList_run rfl (run_bs68 (p := 3) (s := ⟨some ⟨g, 0, none⟩, 64, 64⟩) (eval_put_eq _ _ _ (by simp))) ?_
  have hb5 := Blk.new w4 [.int .i64 3, .slice (some ⟨g, 0, none⟩) 64 64] 68
  have hk5 : Kept (fun _ => False) w4 (w4.alloc (.cells [.int .i64 3, .slice (some ⟨g, 0, none⟩) 64 64].toArray 68)) := Kept.alloc _ _ _
  generalize w4.alloc (.cells [.int .i64 3, .slice (some ⟨g, 0, none⟩) 64 64].toArray 68) = w5 at hb5 hk5 ⊢
  obtain ⟨g2, hg2⟩ : ∃ g2, g2 = w4.heap.size := ⟨_, rfl⟩
  rw [← hg2] at hb5
  have HB5 := hide (hk5.blk HB4.out (fun h => h))
  have HC5 := hide hb5
  have P5 := hide (P4.out.same hk5)
  rw [← hg2]
  clear hb5 hk5 hg2 HB4 P4
  try simp only [put_lit, put_none, List.set_cons_succ, List.set_cons_zero]
  go_wp2_with fail
  refine (P5.out.put (.slice (some ⟨g2, 0, none⟩) 1 1) [⟨3, ⟨some ⟨g, 0, none⟩, 64, 64⟩, wF⟩] (fun w' hk hT => ws_of_blk (hT _ _ _ (by decide) (by decide) (by decide) (by decide) (by decide) (by decide) HB5.out) wF_len wF_lt (hT _ _ _ (by decide) (by decide) (by decide) (by decide) (by decide) (by decide) HC5.out)) (by simp [lF0]) (by simp [lF0])).mono ?_
  rintro e w6 ⟨he, hp6, hT6⟩
  rw [show withE lF0.n (List.map Wv.wr [⟨3, ⟨some ⟨g, 0, none⟩, 64, 64⟩, wF⟩]) = 0 from wsF_ok] at he
  subst he
  have P6 : Hid (Pw w w6 db 8 sF0 b (lF0.putE wsF)) := hide hp6
  have HB6 := hide (hT6 _ _ _ (by decide) (by decide) (by decide) (by decide) (by decide) (by decide) HB5.out)
  clear hp6 hT6 HB5 HC5 P5
  go_wp2_with fail
  refine (P6.out.dirty (by rw [lF1_dirty]; decide)).mono ?_
  rintro e w7 ⟨kv, rfl, ho7, hp7, hk7⟩
  rw [lF1_dirty] at ho7
  rcases ownsRow_blk ho7 with ⟨_, h0, _⟩ | ⟨kg, kc, kC, rfl, hkb, hkn, _, _⟩
  · simp at h0
  have HKB : Hid (Blk w7 kg (.int .i64 3 :: kC) 3) := hide hkb
  have P7 := hide hp7
  have HB7 := hide (hk7.blk HB6.out (fun h => h))
  clear ho7 hkb hp7 hk7 HB6 P6
  try simp only [List.length_cons, List.length_nil, Nat.zero_add] at hkn ⊢
  go_wp2_with fail
  refine (P7.out.save (by rw [lF1_dirty]; decide) (by decide) (by decide) invF.kd).mono ?_
  rintro e w8 ⟨he, hp8, hT8⟩
  rw [invF.save.1] at he
  subst he
  have P8 : Hid (Pw w w8 db 8 sF1 b ((lF0.putE wsF).saveP sF0)) := hide hp8
  have HB8 := hide (hT8 _ _ _ (by decide) (by decide) (by decide) (by decide) (by decide) (by decide) HB7.out)
  have HKB8 := hide (hT8 _ _ _ (by decide) (by decide) (by decide) (by decide) (by decide) (by decide) HKB.out)
  clear hp8 hT8 HB7 HKB P7
  go_wp2_with fail
  refine P8.out.drop.mono ?_
  rintro e w9 ⟨rfl, hp9, hT9⟩
  have P9 : Hid (Pw w w9 db 8 sF1 b lF0) := hide (by
    have h := hp9
    rw [invF.save.2.1] at h
    have e : (⟨(⟨(lF0.putE wsF).fr, (lF0.putE wsF).n, (lF0.putE wsF).hand, []⟩ : PL).fr, (⟨(lF0.putE wsF).fr, (lF0.putE wsF).n, (lF0.putE wsF).hand, []⟩ : PL).n, [], []⟩ : PL) = lF0 := by
      simp only [lF1_n.1, lF1_n.2]; rfl
    rw [← e]; exact h)
  have HB9 := hide (hT9 _ _ _ (by decide) (by decide) (by decide) (by decide) (by decide) (by decide) HB8.out)
  have HKB9 := hide (hT9 _ _ _ (by decide) (by decide) (by decide) (by decide) (by decide) (by decide) HKB8.out)
  clear hp9 hT9 HB8 HKB8 P8
  go_wp2_with fail
  refine (P9.out.get 3 (by decide) (by decide)).mono ?_
  rintro e w10 ⟨sl, he, hsl, hp10, hk10⟩
  rw [getF.1] at he
  rw [getF.2] at hsl
  subst he
  have P10 := hide hp10
  have HS10 := hide hsl
  have HB10 := hide (hk10.blk HB9.out (fun h => h))
  have HKB10 := hide (hk10.blk HKB9.out (fun h => h))
  clear hp10 hsl hk10 HB9 HKB9 P9
  go_wp2_with fail
  refine (P10.out.image (by decide) (by decide)).mono ?_
  rintro e w11 ⟨d, he, hp11, hk11, hd11, _⟩
  rw [imgF.1] at he
  have hd := hd11 imgF.1
  obtain ⟨pd, rfl, _⟩ := hd.ptr
  subst he
  have P11 := hide hp11
  have HS11 := hide (HS10.out.kept hk11)
  have HB11 := hide (hk11.blk HB10.out (fun h => h))
  have c3 : w11.cell? ⟨kg, 0, none⟩ = some (.int .i64 3) := (hk11.blk HKB10.out (fun h => h)).cell 0
  have HD11 := hide hd
  have hsw : Src w11 (.slice (some ⟨g, 0, none⟩) 64 64) wF := by
    have := src_blk HB11.out (BV_isByte wF_lt) 64 (by rw [BV_length, wF_len])
    rwa [NV_BV] at this
  have HSW := hide hsw
  clear hp11 hk11 hd11 hd hsw HS10 HB10 HKB10 P10
  go_wp2_with (first | (with_reducible refine stop_convertG 41 9 ?_) | fail)
  refine hide ?_
  refine wpList_runG rfl (r_strS rfl HS11.out) ?_
  try simp only [put_lit, put_none, List.set_cons_succ, List.set_cons_zero]
  go_wp2_with (first | (with_reducible refine stop_convertG 41 9 ?_) | fail)
  refine hide ?_
  refine wpList_runG rfl (r_strS rfl HSW.out) ?_
  try simp only [put_lit, put_none, List.set_cons_succ, List.set_cons_zero]
  go_wp2_with fail
  refine (bytes_at w11 _ _ _ HD11.out).mono ?_
  rintro e w12 ⟨sb, rfl, ho, hk12⟩
  have hsn : sb.n = 256 := by
    obtain ⟨bo, c, e, _⟩ := ho.src
    simp only [Sl.v, Value.slice.injEq] at e
    rw [e.2.1]; exact imgF.2
  obtain ⟨sa, sn, sc⟩ := sb
  simp only at hsn
  subst hsn
  have P12 := hide (P11.out.same hk12)
  clear hk12 ho c3 P11
  go_wp2_with fail
  refine (P12.out.dirty (by decide)).mono ?_
  rintro e w13 ⟨kv, rfl, ho13, hp13, hk13⟩
  obtain ⟨ao, c13, rfl⟩ := ownsRow_slice ho13
  have K13 := hide hp13.kept
  clear ho13 hp13 hk13
  go_wp2
  go_ret
  exact ⟨rfl, K13.out⟩
end Go.Proofs.Ytnlcmgdeohbmoaa
