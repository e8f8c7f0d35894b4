/-
  Open, of package ring, from the first place on.
-/
import Derived.Test.YtbbhchmdggfncaaJ29
import Derived.Test.YtbbhchmdggfncaaJ24
import Derived.Test.YtbbhchmdggfncaaJ27
namespace Go.Proofs.Ytbbhchmdggfncaa
open Go.RowKit Go.Shelf
set_option linter.unusedSimpArgs false
set_option linter.unusedVariables false
set_option maxRecDepth 100000
attribute [local go_sem] Oper.semAt_some

theorem Try.info48 : (Try.prog.info? 48).map (fun i => (i.zero, i.size, i.bytes)) = some (some (.slice none 0 0), 1, 24) := by kernel_rfl
/-- The bytes of a segment of the sectors L. -/
def segB (fr sg sz : Nat) (L : List (List Nat)) (k : Nat) : List Nat := ((L.drop (fr + k % sg * sz)).take sz).flatten

/-- What holds ahead of each segment. -/
def OpJ (w : World) (b : Nat) (sg sz : Nat) (ep : Int) (rd : Nat → List Nat) (T : List En × Int) (a8 a9 a10 a11 : Nat) (a' : Act) (W : World) : Prop :=
  ∃ (i : Nat) (v : Value) (es : List Ev) (t : Int × Int × Bool) (Ds : List Nat), (i ≤ sg ∧ es.length ≤ 66 * i ∧ 0 ≤ t.1 ∧ t.1 ≤ 70000 * i) ∧ OpAt W a8 a9 a10 a11 v es t ∧ (if t.2.2 then (es.map Ev.en ++ (opRun sz ep rd (sg - i) t.1 t.2.1).1, (opRun sz ep rd (sg - i) t.1 t.2.1).2) else (es.map Ev.en, t.1)) = T ∧
    (∀ k, evX v es k → w.heap.size ≤ k) ∧ Kept (fun _ => False) w W ∧ Ds.Nodup ∧ (∀ D ∈ Ds, W.heap[D]? = some (.deferred (some [])) ∧ w.heap.size ≤ D ∧ ¬ opF a8 a9 a10 a11 v es D) ∧
    ∃ (u13 u14 u28 u29 u30 u31 u32 u33 u34 u35 u36 u37 u38 u39 u40 u41 u42 u43 u44 u45 u46 u47 u48 u49 u50 u51 u52 u53 u54 u55 u56 u57 u58 u59 u60 u61 u62 u63 u64 u65 u66 u67 u68 u69 u70 u71 u72 u73 u74 u75 u76 u77 u78 u79 u80 u81 u82 u83 u84 : Value), a' = { tmps := #[.pointer (some ⟨b, 0, none⟩), .int .i64 0, .int .i64 ep, undef, undef, undef, .slice none 0 0, .int .i64 0, .pointer (some ⟨a8, 0, none⟩), .pointer (some ⟨a9, 0, none⟩), .pointer (some ⟨a10, 0, none⟩), .pointer (some ⟨a11, 0, none⟩), .int .i64 (i : Nat), u13, u14, undef, .pointer (some ⟨b, 0, none⟩), .bool true, .bool false, .int .i64 0, .bool true, .bool false, .bool false, .int .i64 ep, .bool true, .bool false, .bool false, .int .i64 0, u28, u29, u30, u31, u32, u33, u34, u35, u36, u37, u38, u39, u40, u41, u42, u43, u44, u45, u46, u47, u48, u49, u50, u51, u52, u53, u54, u55, u56, u57, u58, u59, u60, u61, u62, u63, u64, u65, u66, u67, u68, u69, u70, u71, u72, u73, u74, u75, u76, u77, u78, u79, u80, u81, u82, u83, u84, undef, undef, undef, undef, undef], defers := Ds.map mkD }
/-- A round's own memory. -/
def OpAx (a8 a9 a10 a11 : Nat) (x : En) (v : Value) (F : NSet) (a' : Act) (W : World) : Prop :=
  ∃ (c : Nat) (y : Rv), v = enAgg x.lsn x.ep x.n y.kd y.tl y.nm y.s ∧ Blk W c [.int .i64 x.lsn, .int .i64 x.ep, .int .i64 x.n, .int .i64 y.kd, .int .i64 y.tl, .int .i64 y.nm, .slice y.s.a y.s.n y.s.c] 58 ∧ ¬ F c ∧
    ∃ (z0 z1 z2 z3 z4 z5 z6 z7 z12 z13 z14 z16 z17 z18 z19 z20 z21 z22 z23 z24 z25 z26 z27 z28 z29 z30 z31 z32 z33 z34 z35 z36 z37 z38 z39 z40 z41 z42 z43 z44 z45 z46 z47 z48 z49 z50 z51 z52 z53 z54 z55 z56 z57 z58 z60 z61 z62 z63 z64 z65 z66 z67 z68 z69 z70 z71 z72 z73 z74 z75 z76 z77 z78 z79 z80 z81 z82 z83 z84 z85 z86 z87 z88 z89 : Value), a' = { tmps := #[z0, z1, z2, z3, z4, z5, z6, z7, .pointer (some ⟨a8, 0, none⟩), .pointer (some ⟨a9, 0, none⟩), .pointer (some ⟨a10, 0, none⟩), .pointer (some ⟨a11, 0, none⟩), z12, z13, z14, .pointer (some ⟨c, 0, none⟩), z16, z17, z18, z19, z20, z21, z22, z23, z24, z25, z26, z27, z28, z29, z30, z31, z32, z33, z34, z35, z36, z37, z38, z39, z40, z41, z42, z43, z44, z45, z46, z47, z48, z49, z50, z51, z52, z53, z54, z55, z56, z57, z58, v, z60, z61, z62, z63, z64, z65, z66, z67, z68, z69, z70, z71, z72, z73, z74, z75, z76, z77, z78, z79, z80, z81, z82, z83, z84, z85, z86, z87, z88, z89], defers := [] }
theorem OpAx.own (a8 a9 a10 a11 B : Nat) : ∀ (x : En) (v : Value) (F : NSet) (a' : Act), OwnFrom B (fun (_ : Unit) W => OpAx a8 a9 a10 a11 x v F a' W) := by
  rintro x v F a' _ W W' row ⟨c, y, h1, h2, h3, h4⟩ hgr hrow
  refine ⟨c, y, h1, (hgr.block c h2.lt (fun e => ?_)).trans h2, h3, h4⟩
  obtain ⟨_, o, ho, hc⟩ := hrow c e.symm
  unfold Blk at h2
  rw [h2] at ho
  cases ho
  simp [Obj.isCells] at hc
/-- How a function with marks is left; it does not panic. -/
def postM (n : Nat) (fn : Func) (R : Ending → World → Prop) : Exit → Act → World → Prop
  | .ret, a, w => LeavesInM Fence.wide n Try.prog fn a.tmps R a.defers .returning w
  | _, _, _ => False
theorem r_fld37 {ρ : Operand → Value} {w : World} {dst : Option Tmp} {ty : TypeId} {x : Operand} {pos : String} {aft : Array Edge} {gd : Option (Nat × Bool)} {b : Nat} (hx : ρ x = .pointer (some ⟨b, 3, none⟩)) : (execOp ρ ⟨dst, .fieldAddr 37 x 0, ty, pos, aft, gd⟩).run Try.prog w = .ok (.value (.pointer (some ⟨b, 3, none⟩))) w := by
  go_simp
theorem r_rgsub1 {ρ : Operand → Value} {w : World} {dst : Option Tmp} {ty : TypeId} {x y : Operand} {pos : String} {aft : Array Edge} {gd : Option (Nat × Bool)} {i : Nat} (hx : ρ x = .int .i64 i) (hy : ρ y = .int .i64 1) (h : 1 ≤ i) (hi : i ≤ 4611686018427387904) : (execOp ρ ⟨dst, .binOp .sub 3 x y 3, ty, pos, aft, gd⟩).run Try.prog w = .ok (.value (.int .i64 ((i - 1 : Nat) : Int))) w := by
  have h2 : IntKind.i64.wrap ((i : Int) - 1) = ((i - 1 : Nat) : Int) := by rw [IntKind.wrap_i64]; omega
  go_simp
theorem evX_nil (k : Nat) : ¬ evX (.slice none 0 0) [] k := by
  rintro (h | ⟨x, hx, _⟩)
  · simp [Value.ownBlock] at h
  · simp at hx
theorem walkB_length {size : Nat} {most : Int} {B : List Nat} : ∀ (k sector : Nat) (place least : Int), (walkB size most B k sector place least).length ≤ k
  | 0, _, _, _ => by simp [walkB]
  | k + 1, sector, place, least => by
    rw [walkB]
    split
    · split
      · simp
      · split
        · split
          · simp
          · simpa using walkB_length k _ _ _
        · simp
    · simp

set_option maxRecDepth 100000 in
set_option maxHeartbeats 8000000 in
theorem rgopen_at (w : World) (b n : Nat) (l : Lg) (s : D.DS) (F : Nat → Prop) (h : LogAt w b l) (hd : D.DevAt w l.db n s F) (hFb : ¬ F b) (hz : 4 ≤ l.sz ∧ l.sz ≤ 64) (hg : 3 ≤ l.sg ∧ l.sg ≤ 64) (hr : l.fr + l.sg * l.sz ≤ n) (ho : s.off = false)
    (L : List (List Nat)) (h64 : ∀ x ∈ L, x.length = 64) (hLn : L.length = n) (hLb : ∀ x ∈ L, ∀ y ∈ x, y < 256) (hv : s.view = BV L.flatten) (ep : Int) (hep : 0 ≤ ep ∧ ep ≤ 4294967295)
    (T : List En × Int) (hT : opRun l.sz ep (segB l.fr l.sg l.sz L) l.sg 0 0 = T) :
    Calls Try.prog 14 #[.pointer (some ⟨b, 0, none⟩), .int .i64 0, .int .i64 ep] w fun e w' => ∃ v es, e = .returned (.tuple #[v, .int .i64 0]) ∧ EvOwn w' v es ∧ es.map Ev.en = T.1 ∧ (∀ k, evX v es k → w.heap.size ≤ k) ∧ ∃ en : Nat, T.2 = en ∧ en ≤ 5000000 ∧ LogAt w' b { l with en := en } ∧ Kept (fun k => k = b) w w' := by
  have HL := hide h
  have HD := hide hd
  have HM := hide (made_at w b l h)
  have HW := hide (rgwithin_at w 0 0 2305843009213693952 true (by decide))
  have HE := hide (epoch_at w ep true (by simp; omega))
  have Hz := hide hz
  have Hg := hide hg
  have Hr := hide hr
  have Ho := hide ho
  have H64 := hide h64
  have HLn := hide hLn
  have HLb := hide hLb
  have Hv := hide hv
  have HT := hide hT
  have hblt := h.lt
  have HB := hide hblt
  have HFb := hide hFb
  obtain ⟨i3, hi3, hz3, hs3, hb3⟩ := info_parts Try.info3
  obtain ⟨i4, hi4, hz4, hs4, hb4⟩ := info_parts Try.info4
  obtain ⟨i48, hi48, hz48, hs48, hb48⟩ := info_parts Try.info48
  obtain ⟨i58, hi58, hz58, hs58, hb58⟩ := info_parts Try.info58
  have Hi3 := hide hi3
  have Hz3 := hide hz3
  have Hs3 := hide hs3
  have Hi4 := hide hi4
  have Hz4 := hide hz4
  have Hs4 := hide hs4
  have Hi48 := hide hi48
  have Hz48 := hide hz48
  have Hs48 := hide hs48
  have Hi58 := hide hi58
  have Hs58 := hide hs58
  have Hz58 := hide hz58
  clear h hd hFb hz hg hr ho h64 hLn hLb hv hT hblt hi3 hz3 hs3 hb3 hi4 hz4 hs4 hb4 hi48 hz48 hs48 hb48 hi58 hz58 hs58 hb58
  refine (callsIn_wide (n := 4)).1 (callsIn_of_wp_marks Try.func14 rfl trivial (wpIn_wide.2 (Code.wp_mono (Q := postM 4 Try.f14 _) (fun e a w h => by cases e <;> first | exact h | exact h.elim) ?_)) rfl)
  simp only [Try.ntmps14, List.size_toArray, List.length_cons, List.length_nil, Nat.reduceAdd, Nat.reduceSub, Array.replicate_succ, Array.replicate_zero, List.push_toArray, List.append_toArray, List.nil_append, List.cons_append]
  go_wp2_with fail
  refine HM.out.mono ?_
  rintro e w1 ⟨rfl, rfl⟩
  go_wp2_with fail
  refine HW.out.mono ?_
  rintro e w1 ⟨rfl, rfl⟩
  go_wp2_with fail
  refine HE.out.mono ?_
  rintro e w1 ⟨rfl, rfl⟩
  clear HM HW HE
  go_wp2_with (first
    | ((with_reducible refine aw_alloc (t := 48) (dst := some 8) Hi48.out Hz48.out ?_); intro w1 hb1 hk1 hz1; have Hb1 := hide hb1; have Hk1 := hide hk1; have Hz1 := hide hz1; clear hb1 hk1 hz1)
    | ((with_reducible refine aw_alloc (t := 3) (dst := some 9) Hi3.out Hz3.out ?_); intro w2 hb2 hk2 hz2; have Hb2 := hide hb2; have Hk2 := hide hk2; have Hz2 := hide hz2; clear hb2 hk2 hz2)
    | ((with_reducible refine aw_alloc (t := 3) (dst := some 10) Hi3.out Hz3.out ?_); intro w3 hb3 hk3 hz3; have Hb3 := hide hb3; have Hk3 := hide hk3; have Hz3w := hide hz3; clear hb3 hk3 hz3)
    | ((with_reducible refine aw_alloc (t := 4) (dst := some 11) Hi4.out Hz4.out ?_); intro w4 hb4 hk4 hz4; have Hb4 := hide hb4; have Hk4 := hide hk4; have Hz4w := hide hz4; clear hb4 hk4 hz4)
    | (with_reducible refine stop_store 3 ?_)
    | fail)
  refine hide ?_
  try simp only [put_lit, put_none, List.set_cons_succ, List.set_cons_zero]
  have hs1 := Hz1.out
  have hs2 := Hz2.out
  have hs3 := Hz3w.out
  obtain ⟨a8, ha8⟩ : ∃ a, a = w.heap.size := ⟨_, rfl⟩
  obtain ⟨a9, ha9⟩ : ∃ a, a = w1.heap.size := ⟨_, rfl⟩
  obtain ⟨a10, ha10⟩ : ∃ a, a = w2.heap.size := ⟨_, rfl⟩
  obtain ⟨a11, ha11⟩ : ∃ a, a = w3.heap.size := ⟨_, rfl⟩
  have HNE : Hid (a9 ≠ a10) := hide (by omega)
  have HGE : Hid (w.heap.size ≤ a8 ∧ w.heap.size ≤ a9 ∧ w.heap.size ≤ a10 ∧ w.heap.size ≤ a11) := hide (by omega)
  have q8 : Blk w4 a8 [.slice none 0 0] 48 := by rw [ha8]; exact Hk4.out.blk (Hk3.out.blk (Hk2.out.blk Hb1.out (fun h => h)) (fun h => h)) (fun h => h)
  have q9 : Blk w4 a9 [.int .i64 0] 3 := by rw [ha9]; exact Hk4.out.blk (Hk3.out.blk Hb2.out (fun h => h)) (fun h => h)
  have q10 : Blk w4 a10 [.int .i64 0] 3 := by rw [ha10]; exact Hk4.out.blk Hb3.out (fun h => h)
  have q11 : Blk w4 a11 [.bool false] 4 := by rw [ha11]; exact Hb4.out
  have K4 := hide (((Hk1.out.trans Hk2.out (fun _ _ h => h)).trans Hk3.out (fun _ _ h => h)).trans Hk4.out (fun _ _ h => h))
  rw [← ha8, ← ha9, ← ha10, ← ha11]
  have Q8 := hide q8
  have Q9 := hide q9
  have Q10 := hide q10
  have Q11 := hide q11
  clear q8 q9 q10 q11 ha8 ha9 ha10 ha11 hs1 hs2 hs3 Hb1 Hk1 Hz1 Hb2 Hk2 Hz2 Hb3 Hk3 Hz3w Hb4 Hk4 Hz4w
  refine aw_store1 (v := .int .i64 0) Hi3.out Hs3.out rfl rfl rfl rfl Q9.out (by simp) ?_
  intro w5 hb5 hk5 hz5
  have P8 := hide (hk5.blk Q8.out (fun h => Q8.out.ne Q9.out (by decide) h))
  have P9 : Hid (Blk w5 a9 [.int .i64 0] 3) := hide hb5
  have P10 := hide (hk5.blk Q10.out (fun h => HNE.out h.symm))
  have P11 := hide (hk5.blk Q11.out (fun h => Q11.out.ne Q9.out (by decide) h))
  have K5 := hide (K4.out.trans hk5 (fun i hi h => by have := HGE.out; omega))
  clear hb5 hk5 hz5 Q8 Q9 Q10 Q11 K4
  try simp only [put_lit, put_none, List.set_cons_succ, List.set_cons_zero]
  go_wp2_with (with_reducible refine stop_store 3 ?_)
  refine hide ?_
  refine aw_store1 (v := .int .i64 0) Hi3.out Hs3.out rfl rfl rfl rfl P10.out (by simp) ?_
  intro w6 hb6 hk6 hz6
  have R8 := hide (hk6.blk P8.out (fun h => P8.out.ne P10.out (by decide) h))
  have R9 := hide (hk6.blk P9.out (fun h => HNE.out h))
  have R10 : Hid (Blk w6 a10 [.int .i64 0] 3) := hide hb6
  have R11 := hide (hk6.blk P11.out (fun h => P11.out.ne P10.out (by decide) h))
  have K6 := hide (K5.out.trans hk6 (fun i hi h => by have := HGE.out; omega))
  clear hb6 hk6 hz6 P8 P9 P10 P11 K5
  try simp only [put_lit, put_none, List.set_cons_succ, List.set_cons_zero]
  go_wp2_with (with_reducible refine stop_store 4 ?_)
  refine hide ?_
  refine aw_store1 (v := .bool true) Hi4.out Hs4.out rfl rfl rfl rfl R11.out (by simp) ?_
  intro w7 hb7 hk7 hz7
  have HO7 : Hid (OpAt w7 a8 a9 a10 a11 (.slice none 0 0) [] (0, 0, true)) := hide ⟨hk7.blk R8.out (fun h => R8.out.ne R11.out (by decide) h), hk7.blk R9.out (fun h => R9.out.ne R11.out (by decide) h), hk7.blk R10.out (fun h => R10.out.ne R11.out (by decide) h), hb7, EvOwn.nil _⟩
  have K7 := hide (K6.out.trans hk7 (fun i hi h => by have := HGE.out; omega))
  clear hb7 hk7 hz7 R8 R9 R10 R11 K6
  try simp only [put_lit, put_none, List.set_cons_succ, List.set_cons_zero]
  go_wp2_with fail
  refine wp_loop (OpJ w b l.sg l.sz ep (segB l.fr l.sg l.sz L) T a8 a9 a10 a11) (fun a' _ => l.sg + 1 - (intOf (a'.tmps.getD 12 undef)).toNat) ⟨0, .slice none 0 0, [], (0, 0, true), [], ⟨Nat.zero_le _, by simp, by simp, by simp⟩, HO7.out, by simpa using HT.out, fun k h => (evX_nil k h).elim, K7.out, List.nodup_nil, by simp, undef, undef, undef, undef, undef, undef, undef, undef, undef, undef, undef, undef, undef, undef, undef, undef, undef, undef, undef, undef, undef, undef, undef, undef, undef, undef, undef, undef, undef, undef, undef, undef, undef, undef, undef, undef, undef, undef, undef, undef, undef, undef, undef, undef, undef, undef, undef, undef, undef, undef, undef, undef, undef, undef, undef, undef, undef, undef, undef, rfl⟩ ?_
  rintro a' wr ⟨i, v, es, ⟨en, le, cl⟩, Ds, ⟨hi, hesl, hen0, hen1⟩, hO, hTT, hge, hkr, hnd, hDs, u13, u14, u28, u29, u30, u31, u32, u33, u34, u35, u36, u37, u38, u39, u40, u41, u42, u43, u44, u45, u46, u47, u48, u49, u50, u51, u52, u53, u54, u55, u56, u57, u58, u59, u60, u61, u62, u63, u64, u65, u66, u67, u68, u69, u70, u71, u72, u73, u74, u75, u76, u77, u78, u79, u80, u81, u82, u83, u84, rfl⟩
  have HO := hide hO
  have HTT := hide hTT
  have HGev := hide hge
  have HKr := hide hkr
  have HND := hide hnd
  have HDs := hide hDs
  have HLr := hide (HL.out.kept hkr)
  have HDr := hide (HD.out.kept hkr (fun _ _ h => h))
  obtain ⟨E, rfl⟩ : ∃ E : Nat, en = E := ⟨en.toNat, by simp only at hen0; omega⟩
  have hEb : E ≤ 70000 * i := by simp only at hen1; omega
  have hg64 := Hg.out
  have HEb : Hid (E ≤ 4611686018427387904) := hide (by omega)
  have HEi := hide hEb
  have HEsl := hide hesl
  have Hi := hide hi
  have c11 : wr.cell? ⟨a11, 0, none⟩ = some (.bool cl) := HO.out.h11.cell 0
  have c2 : wr.cell? ⟨b, 2, none⟩ = some (.int .i64 l.sg) := HLr.out.cell 2
  clear hO hTT hge hkr hnd hDs hen0 hen1 hEb hesl HO7 K7
  cases cl with
  | false =>
    have Hfin : Hid (T = (es.map Ev.en, (E : Int))) := hide (by rw [← HTT.out]; rfl)
    have c9 : wr.cell? ⟨a9, 0, none⟩ = some (.int .i64 (E : Nat)) := HO.out.h9.cell 0
    go_wp2_with (with_reducible refine stop_store 3 ?_)
    refine hide ?_
    refine aw_store1 (v := .int .i64 (E : Nat)) (off := 4) Hi3.out Hs3.out rfl rfl rfl rfl HLr.out (by simp) ?_
    intro wz hbz hkz hzz
    have HBz : Hid (LogAt wz b { l with en := E }) := hide hbz
    have HOz := hide (HO.out.kept hkz (fun k hk => by subst hk; exact HO.out.ne HLr.out (by decide) (by decide) (by decide) (by decide) (by decide) (by decide)))
    have c8 : wz.cell? ⟨a8, 0, none⟩ = some v := HOz.out.h8.cell 0
    obtain ⟨sv, hsv⟩ : ∃ s : Sl, v = .slice s.a s.n s.c := by
      obtain ⟨ao, c, e⟩ := ownsRow_slice HO.out.own.1
      exact ⟨⟨ao, _, c⟩, e⟩
    subst hsv
    have HKz := hide hkz
    clear hbz hkz hzz c9 c11 c2
    try simp only [put_lit, put_none, List.set_cons_succ, List.set_cons_zero]
    go_wp2
    show LeavesInM _ _ _ _ _ _ _ _ _
    refine leaves_all Ds wz HND.out (fun D hD => ?_) (fun W' hk => ?_)
    · exact (HKz.out.block D (Array.getElem?_eq_some_iff.1 (HDs.out D hD).1).1 (fun h => by
        have h1 := (HDs.out D hD).2.1
        have h2 := HB.out
        omega)).trans (HDs.out D hD).1
    refine ⟨_, results_tmp2 (fn := Try.f14) (t := 6) (u := 7) rfl _ _ _, .slice sv.a sv.n sv.c, es, rfl, HOz.out.own.kept hk (fun k hk' he => (HDs.out k hk').2.2 (.inr (.inr (.inr (.inr he))))), by rw [Hfin.out], HGev.out, E, by rw [Hfin.out], by have := HEi.out; have := Hi.out; have := Hg.out; omega, hk.blk HBz.out (fun h => by have h1 := (HDs.out b h).2.1; have h2 := HB.out; omega), ((HKr.out.mono (T := fun k => k = b) (fun _ _ h => h.elim)).trans HKz.out (fun _ _ h => h)).trans hk (fun k hk' h => by have h1 := (HDs.out k h).2.1; omega)⟩
  | true =>
    by_cases hlt : i < l.sg
    · have hltI : (i : Int) < l.sg := by omega
      obtain ⟨q0, hq0⟩ : ∃ q0, E / l.sz = q0 := ⟨_, rfl⟩
      have Hq0 := hide hq0
      have Hlt := hide hlt
      clear hq0
      go_wp2_with fail
      clear c11 c2
      refine hold_frame (p := fun fr => Code.wp Try.prog _ _ fr _) ?_
      intro fr hfr
      have e0 : fr.eval (.tmp 0) = .pointer (some ⟨b, 0, none⟩) := by rw [hfr.out]; rfl
      have e9 : fr.eval (.tmp 9) = .pointer (some ⟨a9, 0, none⟩) := by rw [hfr.out]; rfl
      have hts : fr.tmps.size = 90 := by rw [hfr.out]; rfl
      refine region_S0 99 Try.mixed ?_
      intro w0 hkw hheap
      have HLw := HLr.out.kept hkw
      have HDw := HDr.out.kept hkw (fun _ _ h => h)
      have H9w := hkw.blk HO.out.h9 (fun h => h)
      have hS0 : Kept (fun _ => False) w0 w0 := Kept.refl (fun _ => False) w0
      refine ⟨Kept (fun _ => False) w0, ?_⟩
      refine tkS 0 40 (v := .pointer (some ⟨b, 0, none⟩)) hS0 rfl rfl (by kernel_rfl) (by kernel_rfl) (by kernel_rfl) (by kernel_rfl) (wanted_none rfl) (fun _ _ _ h => h) (fun U hU => r_move (by simp [eval_put_ne, eval_put_eq, size_put, hts, e0])) ?_
      refine tkS 1 41 (v := .int .i64 (E : Nat)) hS0 rfl rfl (by kernel_rfl) (by kernel_rfl) (by kernel_rfl) (by kernel_rfl) (wanted_none rfl) (fun _ _ _ h => h) (fun U hU => r_ld3 (b := a9) (o := 0) (by simp [eval_put_ne, eval_put_eq, size_put, hts, e9]) ((hU.blk H9w (fun h => h)).cell 0)) ?_
      refine tkS 2 42 (v := .pointer (some ⟨b, 0, none⟩)) hS0 rfl rfl (by kernel_rfl) (by kernel_rfl) (by kernel_rfl) (by kernel_rfl) (wanted_none rfl) (fun _ _ _ h => h) (fun U hU => r_move (by simp [eval_put_ne, eval_put_eq, size_put, hts, e0])) ?_
      refine tkS 3 43 (v := .pointer (some ⟨b, 0, none⟩)) hS0 rfl rfl (by kernel_rfl) (by kernel_rfl) (by kernel_rfl) (by kernel_rfl) (wanted_none rfl) (fun _ _ _ h => h) (fun U hU => r_nilChk (by simp [eval_put_ne, eval_put_eq, size_put, hts])) ?_
      refine tkS 4 44 (v := .pointer (some ⟨b, 3, none⟩)) hS0 rfl rfl (by kernel_rfl) (by kernel_rfl) (by kernel_rfl) (by kernel_rfl) (wanted_none rfl) (fun _ _ _ h => h) (fun U hU => r_f66 (b := b) (k := 3) (by decide) (by simp [eval_put_ne, eval_put_eq, size_put, hts])) ?_
      refine tkS 5 45 (v := .int .i64 l.sz) hS0 rfl rfl (by kernel_rfl) (by kernel_rfl) (by kernel_rfl) (by kernel_rfl) (wanted_none rfl) (fun _ _ _ h => h) (fun U hU => r_ld3 (b := b) (o := 3) (by simp [eval_put_ne, eval_put_eq, size_put, hts]) ((HLw.kept hU).cell 3)) ?_
      refine tkS 6 46 (v := .int .i64 (q0 : Nat)) hS0 rfl rfl (by kernel_rfl) (by kernel_rfl) (by kernel_rfl) (by kernel_rfl) (wanted_none rfl) (fun _ _ _ h => h) (fun U hU => r_rgquo (i := E) (j := l.sz) (q := q0) (by simp [eval_put_ne, eval_put_eq, size_put, hts]) (by simp [eval_put_ne, eval_put_eq, size_put, hts]) ⟨by have := Hz.out; omega, by have := Hz.out; omega⟩ HEb.out Hq0.out) ?_
      refine oneCS 7 47 (by kernel_rfl) rfl rfl (wanted_none rfl) (r_call2 Try.func15 (by kernel_rfl) rfl rfl (by simp [eval_put_ne, eval_put_eq, size_put, hts]) (by simp [eval_put_ne, eval_put_eq, size_put, hts])) (rgseg_ok w0 b n l s F HLw HDw ⟨by have := Hz.out; omega, by have := Hz.out; omega⟩ ⟨by have := Hg.out; omega, by have := Hg.out; omega⟩ Hr.out q0 (by have := HEb.out; have := Hq0.out; have := Nat.div_le_self E l.sz; omega) (q0 % l.sg) rfl (l.fr + q0 % l.sg * l.sz) rfl Ho.out) ?_
      rintro e v1 ⟨gs, rfl, hgs, k1, hgn⟩
      refine ⟨_, rfl, k1, ?_⟩
      refine raiseM (S' := Kept (fun _ => False) v1) (fun U hU => k1.trans hU (fun _ _ h => h)) ?_
      have hs1 : (Kept (fun _ => False) v1) _ := Kept.refl _ _
      refine tkS 8 39 (v := .tuple #[.slice (some ⟨gs, 0, none⟩) (l.sz * 64) (l.sz * 64), .int .i64 0]) hs1 rfl rfl (by kernel_rfl) (by kernel_rfl) (by kernel_rfl) (by kernel_rfl) (wanted_none rfl) (fun _ _ _ h => h) (fun U hU => r_move (by simp [eval_put_ne, eval_put_eq, size_put, hts])) ?_
      refine tkS 9 48 (v := .slice (some ⟨gs, 0, none⟩) (l.sz * 64) (l.sz * 64)) hs1 rfl rfl (by kernel_rfl) (by kernel_rfl) (by kernel_rfl) (by kernel_rfl) (wanted_none rfl) (fun _ _ _ h => h) (fun U hU => r_rgext0 (v := .int .i64 0) (by simp [eval_put_ne, eval_put_eq, size_put, hts])) ?_
      refine tkS 10 49 (v := .int .i64 0) hs1 rfl rfl (by kernel_rfl) (by kernel_rfl) (by kernel_rfl) (by kernel_rfl) (wanted_none rfl) (fun _ _ _ h => h) (fun U hU => r_rgext1 (u := .slice (some ⟨gs, 0, none⟩) (l.sz * 64) (l.sz * 64)) (by simp [eval_put_ne, eval_put_eq, size_put, hts])) ?_
      refine tkS 11 13 (v := .slice (some ⟨gs, 0, none⟩) (l.sz * 64) (l.sz * 64)) hs1 rfl rfl (by kernel_rfl) (by kernel_rfl) (by kernel_rfl) (by kernel_rfl) (wanted_none rfl) (fun _ _ _ h => h) (fun U hU => r_assign (by simp [eval_put_ne, eval_put_eq, size_put, hts])) ?_
      refine tkS 12 14 (v := .int .i64 0) hs1 rfl rfl (by kernel_rfl) (by kernel_rfl) (by kernel_rfl) (by kernel_rfl) (wanted_none rfl) (fun _ _ _ h => h) (fun U hU => r_assign (by simp [eval_put_ne, eval_put_eq, size_put, hts])) ?_
      refine doneS (by kernel_rfl) ?_
      rw [hfr.out]
      clear hfr e0 e9 hts
      simp only [put_lit, put_none, List.set_cons_succ, List.set_cons_zero]
      have HK1 := hide (hkw.trans k1 (fun _ _ h => h))
      have HGs := hide hgs
      have HGn := hide (Nat.le_trans hkw.size hgn)
      clear hS0 hkw hheap HLw HDw H9w k1 hs1 hgs hgn
      try simp only [put_lit, put_none, List.set_cons_succ, List.set_cons_zero]
      have hq0s : q0 % l.sg < l.sg := Nat.mod_lt _ (by have := Hg.out; omega)
      have hfit : l.fr + q0 % l.sg * l.sz + l.sz ≤ n := by
        have h1 : (q0 % l.sg + 1) * l.sz ≤ l.sg * l.sz := Nat.mul_le_mul_right _ hq0s
        rw [Nat.add_mul, Nat.one_mul] at h1
        have := Hr.out
        omega
      obtain ⟨B, hB⟩ : ∃ B, B = segB l.fr l.sg l.sz L q0 := ⟨_, rfl⟩
      have hBl : B.length = 64 * l.sz := by
        rw [hB]
        have key : ∀ (M : List (List Nat)), (∀ x ∈ M, x.length = 64) → M.flatten.length = 64 * M.length := by
          intro M
          induction M with
          | nil => simp
          | cons x M ih =>
            intro hM
            rw [List.flatten_cons, List.length_append, ih (fun y hy => hM y (by simp [hy])), hM x (by simp), List.length_cons]
            omega
        unfold segB
        rw [key _ (fun x hx => H64.out x (List.mem_of_mem_drop (List.mem_of_mem_take hx))), List.length_take, List.length_drop, HLn.out]
        omega
      have hgs2 : Blk v1 gs (BV B) 5 := by
        have := HGs.out
        rw [Hv.out, part_many H64.out] at this
        rw [hB]
        exact this
      have hsrc : Src v1 (.slice (some ⟨gs, 0, none⟩) (64 * l.sz) (64 * l.sz)) B := by
        have := hgs2.src (B := B) (cap := 64 * l.sz) (by rw [List.take_of_length_le (by rw [BV_length]; exact Nat.le_refl _)]) (fun y hy => by
          rw [hB] at hy
          obtain ⟨x, hx, hxy⟩ := List.mem_flatten.1 hy
          exact HLb.out x (List.mem_of_mem_drop (List.mem_of_mem_take hx)) y hxy) (by omega)
        rw [hBl] at this
        exact this
      rw [Nat.mul_comm l.sz 64]
      have HSrc := hide hsrc
      have HBseg := hide hB
      have HBl := hide hBl
      have HO1 := hide (HO.out.keptF HK1.out)
      have HK1w := hide (HKr.out.trans HK1.out (fun _ _ h => h))
      have HsegX := hide (show ∀ k, opF a8 a9 a10 a11 v es k → k < gs from fun k hk => by have := HO.out.lt k hk; have := HGn.out; omega)
      clear hB hBl hgs2 hsrc hfit hq0s
      obtain ⟨cs, hcs⟩ : ∃ cs, cs = 64 * l.sz := ⟨_, rfl⟩
      rw [← hcs]
      have HCs := hide hcs
      clear hcs
      go_wp2_with (with_reducible refine stop_store 4 ?_)
      refine hide ?_
      refine aw_store1 (v := .bool false) Hi4.out Hs4.out rfl rfl rfl rfl HO1.out.h11 (by simp) ?_
      intro v2 hb2 hk2 hz2
      have HO2 : Hid (OpAt v2 a8 a9 a10 a11 v es (stO E le [])) := hide ⟨hk2.blk HO1.out.h8 (fun h => HO1.out.h8.ne HO1.out.h11 (by decide) h), hk2.blk HO1.out.h9 (fun h => HO1.out.h9.ne HO1.out.h11 (by decide) h), hk2.blk HO1.out.h10 (fun h => HO1.out.h10.ne HO1.out.h11 (by decide) h), hb2, HO1.out.own.kept hk2 (fun k hk => by subst hk; exact HO1.out.own.ne HO1.out.h11 (by decide) (by decide) (by decide))⟩
      have HK2w := hide (HK1w.out.trans hk2 (fun k hk h => by have := HGE.out; omega))
      have HK12 := hide ((HK1.out.mono (T := fun k => k = a11) (fun _ _ h => h.elim)).trans hk2 (fun _ _ h => h))
      have HSrc2 := hide (HSrc.out.keptBut hk2 (fun k hk j x => by
        subst hk
        have := HO1.out.h11.cell j
        rw [this]
        cases j with
        | zero => simp
        | succ j => simp))
      have c9 : v2.cell? ⟨a9, 0, none⟩ = some (.int .i64 (E : Nat)) := HO2.out.h9.cell 0
      have c10 : v2.cell? ⟨a10, 0, none⟩ = some (.int .i64 le) := HO2.out.h10.cell 0
      clear hb2 hk2 hz2
      try simp only [put_lit, put_none, List.set_cons_succ, List.set_cons_zero]
      go_wp2_with (first
        | (with_reducible refine wpList_run rfl (r_build56 rfl rfl) ?_)
        | fail)
      rw [HCs.out]
      refine (entries_at v2 (some ⟨gs, 0, none⟩) l.sz (64 * l.sz) E le ep (by have := Hz.out; omega)).mono ?_
      rintro e v3 ⟨b1, b2, b3, b4, rfl, h1, h2, h3, h4, hk3, g1, g2, g3, g4⟩
      have HO3 := hide (HO2.out.keptF hk3)
      have HK3w := hide (HK2w.out.trans hk3 (fun _ _ h => h))
      have HK13 := hide (HK12.out.trans hk3 (fun _ _ h => h.elim))
      have HS := hide (entries_ok h1 h2 h3 h4 (HSrc2.out.kept hk3) HBl.out ⟨by have := Hz.out; omega, by have := Hz.out; omega⟩ ⟨by omega, by have := HEb.out; have := HEi.out; have := Hi.out; have := Hg.out; omega⟩)
      have HX : Hid (∀ k, opF a8 a9 a10 a11 v es k → ¬ enX b1 b2 b3 b4 (.slice (some ⟨gs, 0, none⟩) (64 * l.sz) (64 * l.sz)) k) := hide (fun k hk hx => by
        have hlt1 := HO2.out.lt k hk
        have hlt2 := HsegX.out k hk
        rcases hx with h | h | h | h | ⟨_, _, _, e⟩
        · omega
        · omega
        · omega
        · omega
        · cases e; omega)
      have Hxs : Hid (∀ x ∈ walkB l.sz ep B (l.sz + 1) ((E : Int).toNat % l.sz) E le, (E : Int) ≤ x.lsn ∧ x.lsn ≤ E + l.sz ∧ 1 ≤ x.n ∧ x.n ≤ 65536) := hide (fun x hx => by
        have hm := Nat.mod_lt E (show l.sz > 0 by have := Hz.out; omega)
        have := walkB_in (size := l.sz) (most := ep) (B := B) (l.sz + 1) ((E : Int).toNat % l.sz) E le (by omega) (by have := HEi.out; have := Hi.out; have := Hg.out; have := Hz.out; omega) (by rw [Int.toNat_natCast]; omega) (by have := Hz.out; omega) x hx
        exact ⟨this.1, by omega, this.2.2.1, this.2.2.2.1⟩)
      obtain ⟨xs, hxs⟩ : ∃ xs, xs = walkB l.sz ep B (l.sz + 1) ((E : Int).toNat % l.sz) E le := ⟨_, rfl⟩
      have Hxl : Hid (xs.length ≤ 65) := hide (by rw [hxs]; have := walkB_length (size := l.sz) (most := ep) (B := B) (l.sz + 1) ((E : Int).toNat % l.sz) E le; have := Hz.out; omega)
      rw [← hxs] at HS Hxs
      have HXs := hide hxs
      have HE3 := hide g1
      clear hxs h1 h2 h3 h4 hk3 g1 g2 g3 g4 c9 c10 HSrc HSrc2
      go_wp2_with fail
      refine rangeFX (gf := 48) (lb := #[.pointer (some ⟨b1, 0, none⟩), .pointer (some ⟨b2, 0, none⟩), .pointer (some ⟨b3, 0, none⟩), .pointer (some ⟨b4, 0, none⟩)]) rfl HS.out rfl (OpI a8 a9 a10 a11 (es.map Ev.en) E le) (fun _ _ _ => False) (OpI.stab a8 a9 a10 a11 _ _ _ _) (fun _ => ⟨fun _ _ h => h.elim, fun _ _ _ _ h => h.elim⟩) (opF a8 a9 a10 a11 v es) (fun k hk => ⟨HX.out k hk, fun h => h⟩)
        ⟨v, es, HO3.out, by simp, by have := HEsl.out; have := Hi.out; have := Hg.out; omega, rfl⟩
        (OpAx a8 a9 a10 a11) (OpAx.own a8 a9 a10 a11 _) ?assign ?body ?done ?stop
      case assign =>
        rintro lp n1 pre x v' F' G A K ⟨v2, es2, hOp, _, _, rfl⟩ ⟨y, rfl, hrc, hws, h65, hG⟩ hK
        have HKK := hide hK
        have HOp := hide hOp
        clear hK hOp hrc hws h65 hG
        obtain ⟨xl, xe, xn, xr⟩ := x
        obtain ⟨yk, yt, ym, ⟨ya, yn, yc⟩, yw⟩ := y
        simp only [enAgg]
        gi_wp2_with (first
          | ((with_reducible refine ai_alloc (t := 58) Hi58.out Hz58.out ?_); intro wx hbx hkx hzx; have Hzx := hide hzx; clear hzx)
          | (with_reducible refine stopi_store 58 ?_))
        refine hide ?_
        refine ai_store (x := .tmp 15) (M := [.int .i64 xl, .int .i64 xe, .int .i64 xn, .int .i64 yk, .int .i64 yt, .int .i64 ym, .slice ya yn yc]) Try.agg58 rfl rfl rfl (by simp [Value.oneCell']) hbx (by simp [Value.cells]) ?_
        intro wy hby hky hzy
        rw [put_whole _ _ (by simp [Value.cells])] at hby
        have hkxy : Kept (fun _ => False) A wy := hkx.trans hky (fun i hi h => by omega)
        have Hby := hide hby
        have Hkxy := hide hkxy
        clear hbx hkx hby hky hzy hkxy
        try simp only [put_lit, put_none, List.set_cons_succ, List.set_cons_zero]
        gi_wp2
        exact HKK.out _ wy Hkxy.out ⟨A.heap.size, ⟨yk, yt, ym, ⟨ya, yn, yc⟩, yw⟩, rfl, Hby.out, fun h => by have := HOp.out.lt _ h; omega, _, _, _, _, _, _, _, _, _, _, _, _, _, _, _, _, _, _, _, _, _, _, _, _, _, _, _, _, _, _, _, _, _, _, _, _, _, _, _, _, _, _, _, _, _, _, _, _, _, _, _, _, _, _, _, _, _, _, _, _, _, _, _, _, _, _, _, _, _, _, _, _, _, _, _, _, _, _, _, _, _, _, _, _, rfl⟩
      case body =>
        rintro lp n1 pre x post v' F' G a' A hxs ⟨v2, es2, hOp, hmap, hlen, rfl⟩ hwA hF ⟨y0, hv0, hrc, hws, h65, hG⟩ hGd ⟨c, y, hv1, hC, hCn, z0, z1, z2, z3, z4, z5, z6, z7, z12, z13, z14, z16, z17, z18, z19, z20, z21, z22, z23, z24, z25, z26, z27, z28, z29, z30, z31, z32, z33, z34, z35, z36, z37, z38, z39, z40, z41, z42, z43, z44, z45, z46, z47, z48, z49, z50, z51, z52, z53, z54, z55, z56, z57, z58, z60, z61, z62, z63, z64, z65, z66, z67, z68, z69, z70, z71, z72, z73, z74, z75, z76, z77, z78, z79, z80, z81, z82, z83, z84, z85, z86, z87, z88, z89, rfl⟩
        rw [hv0] at hv1
        simp only [enAgg, Value.agg.injEq, Array.mk.injEq, List.cons.injEq, Value.int.injEq, Value.slice.injEq, and_true, true_and] at hv1
        obtain ⟨e1, e2, e3, e4, e5, e6⟩ := hv1
        rw [← e1, ← e2, ← e3, ← e4, ← e5, ← e6] at hC
        have hxb := Hxs.out x (by rw [hxs]; simp)
        have Hadd : Hid (IntKind.i64.wrap (x.lsn + x.n) = x.lsn + x.n) := hide (by rw [IntKind.wrap_i64]; have := HEi.out; have := Hi.out; have := Hg.out; have := Hz.out; omega)
        have hkind : y0.kd = x.rc.kind := by rw [← hrc]; rfl
        have HKind := hide hkind
        have HRc := hide hrc
        have HWs := hide hws
        have H65 := hide h65
        have HG := hide hG
        have HGd := hide hGd
        have HOp := hide hOp
        have HMap := hide hmap
        have HLen2 := hide hlen
        have HC0 := hide hC
        have HCn := hide hCn
        clear e1 e2 e3 e4 e5 e6 hv0 hxb hkind hrc hws h65 hG hGd hOp hmap hlen hC hCn hF hwA
        obtain ⟨sv, hsv⟩ : ∃ s : Sl, v2 = .slice s.a s.n s.c := by
          obtain ⟨ao, c', e⟩ := ownsRow_slice HOp.out.own.1
          exact ⟨⟨ao, _, c'⟩, e⟩
        subst hsv
        have c8 : A.cell? ⟨a8, 0, none⟩ = some (.slice sv.a sv.n sv.c) := HOp.out.h8.cell 0
        gi_wp2_with (with_reducible refine stopi_loadG 58 ?_)
        refine hide ?_
        refine ai_load (off := 0) (M := evC ⟨x.lsn, x.ep, x.n, y0⟩) Try.agg58 rfl HC0.out (by simp) (by simp [evC]) ?_
        try simp only [put_lit, put_none, List.set_cons_succ, List.set_cons_zero]
        gi_wp2_with (with_reducible refine stopi_bs 48 ?_)
        refine hide ?_
        refine wpListIn_run rfl rfl (fun _ => by simp) (run_buildSlice_one (M := evC ⟨x.lsn, x.ep, x.n, y0⟩) Try.underlying48 Hi58.out Hz58.out Hs58.out (by simp [evC]) (by simp [evC]) (.inl rfl)) ?_
        have hbA := Blk.new A (evC ⟨x.lsn, x.ep, x.n, y0⟩) 58
        have hkA : Kept (fun _ => False) A (A.alloc (.cells (evC ⟨x.lsn, x.ep, x.n, y0⟩).toArray 58)) := Kept.alloc _ _ _
        have hzA : (A.alloc (.cells (evC ⟨x.lsn, x.ep, x.n, y0⟩).toArray 58)).heap.size = A.heap.size + 1 := by simp
        generalize A.alloc (.cells (evC ⟨x.lsn, x.ep, x.n, y0⟩).toArray 58) = A1 at hbA hkA hzA
        have hO1 := HOp.out.keptF hkA
        have hW1 : WsOwn A1 y0.s.v y0.ws := wsOwn_keptX HWs.out hkA (fun _ h => h.elim)
        obtain ⟨vn, A2, hr2, hown2, hk2, hv2⟩ := hO1.own.snoc ⟨x.lsn, x.ep, x.n, y0⟩ hW1 H65.out hbA (by have := HLen2.out; omega) 48
        have h8A2 := hk2.blk hO1.h8 (fun h => ownsRow_blk_ne hO1.own.1 hO1.h8 (by decide) h)
        have h9A2 := hk2.blk hO1.h9 (fun h => ownsRow_blk_ne hO1.own.1 hO1.h9 (by decide) h)
        have h10A2 := hk2.blk hO1.h10 (fun h => ownsRow_blk_ne hO1.own.1 hO1.h10 (by decide) h)
        have h11A2 := hk2.blk hO1.h11 (fun h => ownsRow_blk_ne hO1.own.1 hO1.h11 (by decide) h)
        have hC2 := hk2.blk (hkA.blk HC0.out (fun h => h)) (fun h => HCn.out (.inr (.inr (.inr (.inr (.inl h))))))
        have hvx := evX_snoc (v := sv.v) (L := es2) (x := ⟨x.lsn, x.ep, x.n, y0⟩) hv2
        obtain ⟨sn, hsn⟩ : ∃ s : Sl, vn = .slice s.a s.n s.c := by
          obtain ⟨ao, c', e⟩ := ownsRow_slice hown2.1
          exact ⟨⟨ao, _, c'⟩, e⟩
        subst hsn
        have HR2 := hide hr2
        have HOwn2 := hide hown2
        have HVx := hide hvx
        have HzA := hide hzA
        have HKA2 := hide (((hkA.mono (T := fun k => sv.v.ownBlock = some k) (fun _ _ h => h.elim)).trans hk2 (fun _ _ h => h)))
        have H8A2 := hide h8A2
        have H9A2 := hide h9A2
        have H10A2 := hide h10A2
        have H11A2 := hide h11A2
        have HC2 := hide hC2
        clear hbA hkA hzA hO1 hW1 hr2 hown2 hk2 hv2 h8A2 h9A2 h10A2 h11A2 hC2 hvx c8
        try simp only [put_lit, put_none, List.set_cons_succ, List.set_cons_zero]
        gi_wp2_with (with_reducible refine stopi_app 48 48 ?_)
        refine hide ?_
        refine wpListIn_run rfl rfl (fun _ => by simp) (r_app rfl rfl HR2.out) ?_
        try simp only [put_lit, put_none, List.set_cons_succ, List.set_cons_zero]
        gi_wp2_with (with_reducible refine stopi_store 48 ?_)
        refine hide ?_
        refine ai_store1 (v := .slice sn.a sn.n sn.c) Hi48.out Hs48.out rfl rfl rfl rfl H8A2.out (by simp) ?_
        intro A3 hb3 hk3 hz3
        have HO2 : Hid (OpAt A3 a8 a9 a10 a11 (.slice sn.a sn.n sn.c) (es2 ++ [⟨x.lsn, x.ep, x.n, y0⟩]) (stO (E : Int) le pre)) := hide ⟨hb3, hk3.blk H9A2.out (fun h => H9A2.out.ne H8A2.out (by decide) h), hk3.blk H10A2.out (fun h => H10A2.out.ne H8A2.out (by decide) h), hk3.blk H11A2.out (fun h => H11A2.out.ne H8A2.out (by decide) h), HOwn2.out.kept hk3 (fun k hk => by subst hk; exact HOwn2.out.ne H8A2.out (by decide) (by decide) (by decide))⟩
        have HC := hide (hk3.blk HC2.out (fun h => HC2.out.ne H8A2.out (by decide) h))
        have HKA3 := hide ((HKA2.out.mono (T := fun k => sv.v.ownBlock = some k ∨ k = a8) (fun _ _ h => .inl h)).trans hk3 (fun _ _ h => .inr h))
        clear hb3 hk3 hz3 H8A2 H9A2 H10A2 H11A2 HC2 HKA2 HR2 HC0
        try simp only [put_lit, put_none, List.set_cons_succ, List.set_cons_zero]
        gi_wp2
        refine hold_frame (p := fun fr => Code.wpIn (Fence.wide.inRound lp) n1 Try.prog _ _ fr _) ?_
        intro fr hfr
        have e9 : fr.eval (.tmp 9) = .pointer (some ⟨a9, 0, none⟩) := by rw [hfr.out]; rfl
        have e10 : fr.eval (.tmp 10) = .pointer (some ⟨a10, 0, none⟩) := by rw [hfr.out]; rfl
        have e11 : fr.eval (.tmp 11) = .pointer (some ⟨a11, 0, none⟩) := by rw [hfr.out]; rfl
        have e15 : fr.eval (.tmp 15) = .pointer (some ⟨c, 0, none⟩) := by rw [hfr.out]; rfl
        have hts : fr.tmps.size = 90 := by rw [hfr.out]; rfl
        refine region_Sin 99 Try.mixed (fun ⟨_, _, h⟩ => h) (by kernel_rfl) ?_
        intro w0 hkw hheap
        have HCw := hkw.blk HC.out (fun h => h)
        have HOw := HO2.out.keptF hkw
        have hcn : ¬ (c = a9 ∨ c = a10 ∨ c = a11) := fun h => HCn.out (h.elim (fun h => .inr (.inl h)) (fun h => h.elim (fun h => .inr (.inr (.inl h))) (fun h => .inr (.inr (.inr (.inl h))))))
        have hS0 : Kept (fun k => k = a9 ∨ k = a10 ∨ k = a11) w0 w0 := Kept.refl (fun k => k = a9 ∨ k = a10 ∨ k = a11) w0
        refine ⟨Kept (fun k => k = a9 ∨ k = a10 ∨ k = a11) w0, ?_⟩
        refine tkS 0 64 (v := .pointer (some ⟨c, 0, none⟩)) hS0 rfl rfl (by kernel_rfl) (by kernel_rfl) (by kernel_rfl) (by kernel_rfl) (wanted_none rfl) (fun _ _ _ h => h) (fun U hU => r_fld58 0 (by decide) (by simp [eval_put_ne, eval_put_eq, size_put, hts, e15])) ?_
        refine tkS 1 65 (v := .int .i64 x.lsn) hS0 rfl rfl (by kernel_rfl) (by kernel_rfl) (by kernel_rfl) (by kernel_rfl) (wanted_none rfl) (fun _ _ _ h => h) (fun U hU => r_ld3 (b := c) (o := 0) (by simp [eval_put_ne, eval_put_eq, size_put, hts]) ((hU.blk HCw hcn).cell 0)) ?_
        refine tkS 2 66 (v := .pointer (some ⟨c, 2, none⟩)) hS0 rfl rfl (by kernel_rfl) (by kernel_rfl) (by kernel_rfl) (by kernel_rfl) (wanted_none rfl) (fun _ _ _ h => h) (fun U hU => r_fld58 2 (by decide) (by simp [eval_put_ne, eval_put_eq, size_put, hts, e15])) ?_
        refine tkS 3 67 (v := .int .i64 x.n) hS0 rfl rfl (by kernel_rfl) (by kernel_rfl) (by kernel_rfl) (by kernel_rfl) (wanted_none rfl) (fun _ _ _ h => h) (fun U hU => r_ld3 (b := c) (o := 2) (by simp [eval_put_ne, eval_put_eq, size_put, hts]) ((hU.blk HCw hcn).cell 2)) ?_
        refine tkS 4 68 (v := .int .i64 (x.lsn + x.n)) hS0 rfl rfl (by kernel_rfl) (by kernel_rfl) (by kernel_rfl) (by kernel_rfl) (wanted_none rfl) (fun _ _ _ h => h) (fun U hU => r_addi (by simp [eval_put_ne, eval_put_eq, size_put, hts]) (by simp [eval_put_ne, eval_put_eq, size_put, hts]) Hadd.out) ?_
        refine tkS 5 69 (v := .pointer (some ⟨c, 1, none⟩)) hS0 rfl rfl (by kernel_rfl) (by kernel_rfl) (by kernel_rfl) (by kernel_rfl) (wanted_none rfl) (fun _ _ _ h => h) (fun U hU => r_fld58 1 (by decide) (by simp [eval_put_ne, eval_put_eq, size_put, hts, e15])) ?_
        refine tkS 6 70 (v := .int .i64 x.ep) hS0 rfl rfl (by kernel_rfl) (by kernel_rfl) (by kernel_rfl) (by kernel_rfl) (wanted_none rfl) (fun _ _ _ h => h) (fun U hU => r_ld3 (b := c) (o := 1) (by simp [eval_put_ne, eval_put_eq, size_put, hts]) ((hU.blk HCw hcn).cell 1)) ?_
        refine tkS 7 71 (v := .pointer (some ⟨c, 3, none⟩)) hS0 rfl rfl (by kernel_rfl) (by kernel_rfl) (by kernel_rfl) (by kernel_rfl) (wanted_none rfl) (fun _ _ _ h => h) (fun U hU => r_fld58 3 (by decide) (by simp [eval_put_ne, eval_put_eq, size_put, hts, e15])) ?_
        refine tkS 8 72 (v := .pointer (some ⟨c, 3, none⟩)) hS0 rfl rfl (by kernel_rfl) (by kernel_rfl) (by kernel_rfl) (by kernel_rfl) (wanted_none rfl) (fun _ _ _ h => h) (fun U hU => r_fld37 (by simp [eval_put_ne, eval_put_eq, size_put, hts])) ?_
        refine tkS 9 73 (v := .int .i64 y0.kd) hS0 rfl rfl (by kernel_rfl) (by kernel_rfl) (by kernel_rfl) (by kernel_rfl) (wanted_none rfl) (fun _ _ _ h => h) (fun U hU => r_ld3 (b := c) (o := 3) (by simp [eval_put_ne, eval_put_eq, size_put, hts]) ((hU.blk HCw hcn).cell 3)) ?_
        refine tkS 10 74 (v := .bool (decide (y0.kd = 2))) hS0 rfl rfl (by kernel_rfl) (by kernel_rfl) (by kernel_rfl) (by kernel_rfl) (wanted_none rfl) (fun _ _ _ h => h) (fun U hU => r_rgeql (i := y0.kd) (j := 2) (by simp [eval_put_ne, eval_put_eq, size_put, hts]) rfl rfl) ?_
        refine oneKS 11 (by kernel_rfl) rfl rfl (wanted_none rfl) (run_store_one (v := .int .i64 (x.lsn + x.n)) (off := 0) Hi3.out Hs3.out (by simp [eval_put_ne, eval_put_eq, size_put, hts, e9]) (by simp [eval_put_ne, eval_put_eq, size_put, hts]) rfl rfl HOw.h9 (by simp)) (hS0.trans (Kept.setRow (S := fun k => k = a9 ∨ k = a10 ∨ k = a11) _ _ _ (.inl rfl)) (fun _ _ h => h)) ?_
        have qa1 := HOw.h9.setRow (List.set [.int .i64 (stO (E : Int) le pre).1] 0 (.int .i64 (x.lsn + x.n)))
        have ja1 : Kept (fun k => k = a9) w0 (w0.setRow a9 (List.set [.int .i64 (stO (E : Int) le pre).1] 0 (.int .i64 (x.lsn + x.n))).toArray) := Kept.setRow (S := fun k => k = a9) _ _ _ rfl
        have ka1 : Kept (fun k => k = a9 ∨ k = a10 ∨ k = a11) w0 (w0.setRow a9 (List.set [.int .i64 (stO (E : Int) le pre).1] 0 (.int .i64 (x.lsn + x.n))).toArray) := hS0.trans ja1 (fun i hi h => .inl h)
        generalize w0.setRow a9 (List.set [.int .i64 (stO (E : Int) le pre).1] 0 (.int .i64 (x.lsn + x.n))).toArray = u1 at qa1 ja1 ka1
        have hb10 := ja1.blk HOw.h10 (fun h => HNE.out h.symm)
        refine oneKS 12 (by kernel_rfl) rfl rfl (wanted_none rfl) (run_store_one (v := .int .i64 x.ep) (off := 0) Hi3.out Hs3.out (by simp [eval_put_ne, eval_put_eq, size_put, hts, e10]) (by simp [eval_put_ne, eval_put_eq, size_put, hts]) rfl rfl hb10 (by simp)) (ka1.trans (Kept.setRow (S := fun k => k = a9 ∨ k = a10 ∨ k = a11) _ _ _ (.inr (.inl rfl))) (fun _ _ h => h)) ?_
        have qa2 := hb10.setRow (List.set [.int .i64 (stO (E : Int) le pre).2.1] 0 (.int .i64 x.ep))
        have ja2 : Kept (fun k => k = a10) u1 (u1.setRow a10 (List.set [.int .i64 (stO (E : Int) le pre).2.1] 0 (.int .i64 x.ep)).toArray) := Kept.setRow (S := fun k => k = a10) _ _ _ rfl
        have ka2 : Kept (fun k => k = a9 ∨ k = a10 ∨ k = a11) w0 (u1.setRow a10 (List.set [.int .i64 (stO (E : Int) le pre).2.1] 0 (.int .i64 x.ep)).toArray) := ka1.trans ja2 (fun i hi h => .inr (.inl h))
        generalize u1.setRow a10 (List.set [.int .i64 (stO (E : Int) le pre).2.1] 0 (.int .i64 x.ep)).toArray = u2 at qa2 ja2 ka2
        have hb11 := ja2.blk (ja1.blk HOw.h11 (fun h => by subst h; exact HOw.h11.ne HOw.h9 (by decide) rfl)) (fun h => by subst h; exact HOw.h11.ne HOw.h10 (by decide) rfl)
        refine oneKS 13 (by kernel_rfl) rfl rfl (wanted_none rfl) (run_store_one (v := .bool (decide (y0.kd = 2))) (off := 0) Hi4.out Hs4.out (by simp [eval_put_ne, eval_put_eq, size_put, hts, e11]) (by simp [eval_put_ne, eval_put_eq, size_put, hts]) rfl rfl hb11 (by simp)) (ka2.trans (Kept.setRow (S := fun k => k = a9 ∨ k = a10 ∨ k = a11) _ _ _ (.inr (.inr rfl))) (fun _ _ h => h)) ?_
        have qa3 := hb11.setRow (List.set [.bool (stO (E : Int) le pre).2.2] 0 (.bool (decide (y0.kd = 2))))
        have ja3 : Kept (fun k => k = a11) u2 (u2.setRow a11 (List.set [.bool (stO (E : Int) le pre).2.2] 0 (.bool (decide (y0.kd = 2)))).toArray) := Kept.setRow (S := fun k => k = a11) _ _ _ rfl
        have ka3 : Kept (fun k => k = a9 ∨ k = a10 ∨ k = a11) w0 (u2.setRow a11 (List.set [.bool (stO (E : Int) le pre).2.2] 0 (.bool (decide (y0.kd = 2)))).toArray) := ka2.trans ja3 (fun i hi h => .inr (.inr h))
        generalize u2.setRow a11 (List.set [.bool (stO (E : Int) le pre).2.2] 0 (.bool (decide (y0.kd = 2)))).toArray = u3 at qa3 ja3 ka3
        refine doneS (by kernel_rfl) ?_
        have n89 : a8 ≠ a9 := HOw.h8.ne HOw.h9 (by decide)
        have n810 : a8 ≠ a10 := HOw.h8.ne HOw.h10 (by decide)
        have n811 : a8 ≠ a11 := HOw.h8.ne HOw.h11 (by decide)
        have n911 : a9 ≠ a11 := HOw.h9.ne HOw.h11 (by decide)
        have n1011 : a10 ≠ a11 := HOw.h10.ne HOw.h11 (by decide)
        have hx9 := HOw.own.ne HOw.h9 (by decide) (by decide) (by decide)
        have hx10 := HOw.own.ne HOw.h10 (by decide) (by decide) (by decide)
        have hx11 := HOw.own.ne HOw.h11 (by decide) (by decide) (by decide)
        have hn : (⟨x.lsn, x.ep, x.n, y0⟩ : Ev).en = x := by
          obtain ⟨xl, xe, xn, xr⟩ := x
          simp only [Ev.en]
          rw [HRc.out]
        refine ⟨opF a8 a9 a10 a11 (.slice sn.a sn.n sn.c) (es2 ++ [⟨x.lsn, x.ep, x.n, y0⟩]), ⟨_, _, ?opat, ?map, ?len, rfl⟩, ?kept, ?sub⟩
        case opat =>
          rw [stO_snoc, ← HKind.out]
          exact ⟨ka3.blk HOw.h8 (fun h => h.elim n89 (fun h => h.elim n810 n811)), ja3.blk (ja2.blk qa1 HNE.out) n911, ja3.blk qa2 n1011, qa3, HOw.own.kept ka3 (fun k hk hx => by
            rcases hk with rfl | rfl | rfl
            · exact hx9 hx
            · exact hx10 hx
            · exact hx11 hx)⟩
        case map => rw [List.map_append, HMap.out, List.map_cons, List.map_nil, hn, List.append_assoc]
        case len =>
          have h1 := congrArg List.length HMap.out
          rw [List.length_map, List.length_append, List.length_map] at h1
          have h2 := congrArg List.length hxs
          rw [List.length_append, List.length_cons] at h2
          rw [List.length_append, List.length_singleton]
          have := HEsl.out
          have := Hi.out
          have := Hg.out
          have := Hxl.out
          omega
        case kept =>
          refine ((HKA3.out.mono (T := fun k => opF a8 a9 a10 a11 sv.v es2 k ∨ G k) (fun k _ h => .inl (h.elim (fun h => .inr (.inr (.inr (.inr (.inl h))))) .inl))).trans hkw (fun _ _ h => h.elim)).trans ka3 (fun k _ h => .inl ?_)
          rcases h with h | h | h
          · exact .inr (.inl h)
          · exact .inr (.inr (.inl h))
          · exact .inr (.inr (.inr (.inl h)))
        case sub =>
          rintro k (h | h | h | h | h)
          · exact .inl (.inl h)
          · exact .inl (.inr (.inl h))
          · exact .inl (.inr (.inr (.inl h)))
          · exact .inl (.inr (.inr (.inr (.inl h))))
          · rcases HVx.out k h with h | h | h
            · exact .inl (.inr (.inr (.inr (.inr h))))
            · exact .inr (.inl ((HG.out k).2 h))
            · exact .inr (.inr (by have := HzA.out; omega))
      case done =>
        rintro D F' W hD ⟨v2, es2, hOp, hmap, hlen2, rfl⟩ hF hnD hkA hP hDD
        obtain ⟨⟨en', le', cl'⟩, ht⟩ : ∃ t, t = stO (E : Int) le xs := ⟨_, rfl⟩
        have HOp := hide hOp
        have hs13 := HK13.out.size
        have hs1w := HKr.out.size
        have hopF0 : ∀ k, opF a8 a9 a10 a11 v es k → w.heap.size ≤ k := by
          rintro k (h | h | h | h | h)
          · have := HGE.out; omega
          · have := HGE.out; omega
          · have := HGE.out; omega
          · have := HGE.out; omega
          · exact HGev.out k h
        have Kw : Hid (Kept (fun _ => False) w W) := hide (HK3w.out.trans hkA (fun k hk h => by
          rcases h with h | h
          · have := hopF0 k h; omega
          · exact h))
        have hF2 : Hid (∀ k, opF a8 a9 a10 a11 v2 es2 k → w.heap.size ≤ k) := hide (fun k hk => by
          rcases hF k hk with h | h
          · exact hopF0 k h
          · omega)
        have hDs2 : Hid (∀ D' ∈ D :: Ds, W.heap[D']? = some (.deferred (some [])) ∧ w.heap.size ≤ D' ∧ ¬ opF a8 a9 a10 a11 v2 es2 D') := hide (fun D' hD' => by
          rcases List.mem_cons.1 hD' with rfl | hD'
          · exact ⟨hDD, by omega, hnD⟩
          · obtain ⟨g1, g2, g3⟩ := HDs.out D' hD'
            have hlt1 := (Array.getElem?_eq_some_iff.1 g1).1
            refine ⟨?_, g2, fun h => ?_⟩
            · have h3 := (HK13.out.block D' hlt1 (fun h => g3 (.inr (.inr (.inr (.inl h)))))).trans g1
              exact (hkA.block D' (by omega) (fun h => h.elim g3 (fun h => h))).trans h3
            · rcases hF D' h with h | h
              · exact g3 h
              · omega)
        have hND2 : Hid ((D :: Ds).Nodup) := hide (List.nodup_cons.2 ⟨fun h => by
          have := (Array.getElem?_eq_some_iff.1 (HDs.out D h).1).1
          omega, HND.out⟩)
        have hEn : 0 ≤ en' ∧ en' ≤ 70000 * (i + 1 : Nat) ∧ (cl' = true → 1 ≤ en') := by
          by_cases hx0 : xs = []
          · rw [hx0, stO_nil] at ht
            simp only [Prod.mk.injEq] at ht
            obtain ⟨rfl, rfl, rfl⟩ := ht
            have := HEi.out
            refine ⟨by omega, by omega, fun h => by cases h⟩
          · obtain ⟨x, hx, hst⟩ := stO_mem (E : Int) le hx0
            rw [hst] at ht
            simp only [Prod.mk.injEq] at ht
            obtain ⟨rfl, rfl, rfl⟩ := ht
            have := Hxs.out x hx
            have := HEi.out
            have := Hz.out
            refine ⟨by omega, by omega, fun _ => by omega⟩
        have HEn := hide hEn
        have hlen3 : Hid (es2.length ≤ 66 * (i + 1)) := hide (by
          have h1 := congrArg List.length hmap
          rw [List.length_map, List.length_append, List.length_map] at h1
          have := HEsl.out
          have := Hxl.out
          omega)
        have hsub : l.sg - i = (l.sg - (i + 1)) + 1 := by omega
        have hTT := HTT.out
        simp only [if_true] at hTT
        rw [hsub] at hTT
        have hxs := HXs.out
        rw [HBseg.out, ← Hq0.out] at hxs
        have HMap := hide hmap
        rw [← ht] at HOp
        have c11 : W.cell? ⟨a11, 0, none⟩ = some (.bool cl') := HOp.out.h11.cell 0
        have HLr2 := hide (HL.out.kept Kw.out)
        cases cl' with
        | false =>
          have HT2 : Hid ((es2.map Ev.en, en') = T) := hide (by
            rw [← hTT, HMap.out]
            simp only [opRun]
            rw [Int.toNat_natCast] at hxs ⊢
            rw [← hxs, ← ht]
            simp)
          clear hTT hxs hmap hOp hF hnD hkA hP hDD hopF0 hEn ht hs13 hs1w hsub
          go_wp2
          refine ⟨⟨i + 1, v2, es2, (en', le', false), D :: Ds, ⟨by omega, hlen3.out, HEn.out.1, HEn.out.2.1⟩, HOp.out, HT2.out, fun k hk => hF2.out k (.inr (.inr (.inr (.inr hk)))), Kw.out, hND2.out, hDs2.out, _, _, _, _, _, _, _, _, _, _, _, _, _, _, _, _, _, _, _, _, _, _, _, _, _, _, _, _, _, _, _, _, _, _, _, _, _, _, _, _, _, _, _, _, _, _, _, _, _, _, _, _, _, _, _, _, _, _, _, rfl⟩, ?_⟩
          simp [intOf]
          omega
        | true =>
          obtain ⟨E2, rfl⟩ : ∃ E2 : Nat, en' = E2 := ⟨en'.toNat, by omega⟩
          obtain ⟨qb, hqb⟩ : ∃ qb, (E2 - 1) - (E2 - 1) % l.sz = qb := ⟨_, rfl⟩
          have HEp : Hid (1 ≤ E2) := hide (by have := HEn.out.2.2 rfl; omega)
          have HEb2 : Hid (E2 ≤ 4611686018427387904) := hide (by have := HEn.out.2.1; have := Hi.out; have := Hg.out; omega)
          have Hqb := hide hqb
          have Hqb2 : Hid (qb ≤ E2) := hide (by omega)
          have Hnext : Hid (((qb + l.sz : Nat) : Int) = nextO l.sz (E2 : Int) ∧ ((qb + l.sz : Nat) : Int) ≤ E2 + 64) := hide (by
            have h1 := HEp.out
            have h2 := Hz.out
            have h3 : ((E2 - 1 : Nat) : Int) = (E2 : Int) - 1 := by omega
            have h4 := Nat.mod_le (E2 - 1) l.sz
            unfold nextO
            rw [← h3, ← Int.natCast_emod]
            refine ⟨by omega, by omega⟩)
          have HT2 : Hid ((es2.map Ev.en ++ (opRun l.sz ep (segB l.fr l.sg l.sz L) (l.sg - (i + 1)) ((qb + l.sz : Nat) : Int) le').1, (opRun l.sz ep (segB l.fr l.sg l.sz L) (l.sg - (i + 1)) ((qb + l.sz : Nat) : Int) le').2) = T) := hide (by
            rw [← hTT, HMap.out, Hnext.out.1]
            simp only [opRun]
            rw [Int.toNat_natCast] at hxs ⊢
            rw [← hxs, ← ht]
            simp)
          have HEnb : Hid (((qb + l.sz : Nat) : Int) ≤ 70000 * (i + 1 : Nat)) := hide (by
            by_cases hx0 : xs = []
            · rw [hx0, stO_nil] at ht
              simp only [Prod.mk.injEq] at ht
              exact absurd ht.2.2 (by decide)
            · obtain ⟨x, hx, hst⟩ := stO_mem (E : Int) le hx0
              rw [hst] at ht
              simp only [Prod.mk.injEq] at ht
              have h1 := Hxs.out x hx
              have h2 := HEi.out
              have h3 := Hz.out
              have h4 := Hnext.out.2
              omega)
          have H9 := hide HOp.out.h9
          clear hTT hxs hmap hOp hF hnD hkA hP hDD hopF0 hEn ht hs13 hs1w hsub hqb
          go_wp2_with fail
          refine hold_frame (p := fun fr => Code.wp Try.prog _ _ fr _) ?_
          intro fr hfr
          have e0 : fr.eval (.tmp 0) = .pointer (some ⟨b, 0, none⟩) := by rw [hfr.out]; rfl
          have e9 : fr.eval (.tmp 9) = .pointer (some ⟨a9, 0, none⟩) := by rw [hfr.out]; rfl
          have hts : fr.tmps.size = 90 := by rw [hfr.out]; rfl
          refine region_S0 9 Try.mixed ?_
          intro w0 hkw hheap
          have HLw := HLr2.out.kept hkw
          have H9w := hkw.blk H9.out (fun h => h)
          have hS0 : Kept (fun _ => False) w0 w0 := Kept.refl (fun _ => False) w0
          refine ⟨Kept (fun _ => False) w0, ?_⟩
          refine tkS 0 76 (v := .pointer (some ⟨b, 0, none⟩)) hS0 rfl rfl (by kernel_rfl) (by kernel_rfl) (by kernel_rfl) (by kernel_rfl) (wanted_none rfl) (fun _ _ _ h => h) (fun U hU => r_move (by simp [eval_put_ne, eval_put_eq, size_put, hts, e0])) ?_
          refine tkS 1 77 (v := .int .i64 (E2 : Nat)) hS0 rfl rfl (by kernel_rfl) (by kernel_rfl) (by kernel_rfl) (by kernel_rfl) (wanted_none rfl) (fun _ _ _ h => h) (fun U hU => r_ld3 (b := a9) (o := 0) (by simp [eval_put_ne, eval_put_eq, size_put, hts, e9]) ((hU.blk H9w (fun h => h)).cell 0)) ?_
          refine tkS 2 78 (v := .int .i64 ((E2 - 1 : Nat) : Int)) hS0 rfl rfl (by kernel_rfl) (by kernel_rfl) (by kernel_rfl) (by kernel_rfl) (wanted_none rfl) (fun _ _ _ h => h) (fun U hU => r_rgsub1 (i := E2) (by simp [eval_put_ne, eval_put_eq, size_put, hts]) rfl HEp.out HEb2.out) ?_
          refine tkS 4 80 (v := .pointer (some ⟨b, 0, none⟩)) hS0 rfl rfl (by kernel_rfl) (by kernel_rfl) (by kernel_rfl) (by kernel_rfl) (wanted_none rfl) (fun _ _ _ h => h) (fun U hU => r_move (by simp [eval_put_ne, eval_put_eq, size_put, hts, e0])) ?_
          refine tkS 5 81 (v := .pointer (some ⟨b, 0, none⟩)) hS0 rfl rfl (by kernel_rfl) (by kernel_rfl) (by kernel_rfl) (by kernel_rfl) (wanted_none rfl) (fun _ _ _ h => h) (fun U hU => r_nilChk (by simp [eval_put_ne, eval_put_eq, size_put, hts])) ?_
          refine tkS 6 82 (v := .pointer (some ⟨b, 3, none⟩)) hS0 rfl rfl (by kernel_rfl) (by kernel_rfl) (by kernel_rfl) (by kernel_rfl) (wanted_none rfl) (fun _ _ _ h => h) (fun U hU => r_f66 (b := b) (k := 3) (by decide) (by simp [eval_put_ne, eval_put_eq, size_put, hts])) ?_
          refine tkS 7 83 (v := .int .i64 l.sz) hS0 rfl rfl (by kernel_rfl) (by kernel_rfl) (by kernel_rfl) (by kernel_rfl) (wanted_none rfl) (fun _ _ _ h => h) (fun U hU => r_ld3 (b := b) (o := 3) (by simp [eval_put_ne, eval_put_eq, size_put, hts]) ((HLw.kept hU).cell 3)) ?_
          refine oneCS 3 79 (by kernel_rfl) rfl rfl (wanted_none rfl) (r_call2 Try.func37 (by kernel_rfl) rfl rfl (by simp [eval_put_ne, eval_put_eq, size_put, hts]) (by simp [eval_put_ne, eval_put_eq, size_put, hts])) (beginning_at w0 b l HLw (E2 - 1) (by have := HEb2.out; omega) ⟨by have := Hz.out; omega, by have := Hz.out; omega⟩ qb Hqb.out.symm) ?_
          rintro e v1 ⟨rfl, rfl⟩
          refine ⟨_, rfl, hS0, ?_⟩
          refine tkS 8 84 (v := .int .i64 ((qb + l.sz : Nat) : Int)) hS0 rfl rfl (by kernel_rfl) (by kernel_rfl) (by kernel_rfl) (by kernel_rfl) (wanted_none rfl) (fun _ _ _ h => h) (fun U hU => r_rgadd (i := qb) (j := l.sz) (by simp [eval_put_ne, eval_put_eq, size_put, hts]) (by simp [eval_put_ne, eval_put_eq, size_put, hts]) (by have := Hqb2.out; have := HEb2.out; have := Hz.out; omega)) ?_
          refine lastS (by kernel_rfl) rfl (wanted_none rfl) (run_store_one (v := .int .i64 ((qb + l.sz : Nat) : Int)) (off := 0) Hi3.out Hs3.out (by simp [eval_put_ne, eval_put_eq, size_put, hts, e9]) (by simp [eval_put_ne, eval_put_eq, size_put, hts]) rfl rfl H9w (by simp)) (by kernel_rfl) ?_
          have H9x := hide (H9w.setRow (List.set [.int .i64 (E2 : Nat)] 0 (.int .i64 ((qb + l.sz : Nat) : Int))))
          have J9 : Hid (Kept (fun k => k = a9) w0 (w0.setRow a9 (List.set [.int .i64 (E2 : Nat)] 0 (.int .i64 ((qb + l.sz : Nat) : Int))).toArray)) := hide (Kept.setRow (S := fun k => k = a9) _ _ _ rfl)
          have K0 := hide hkw
          generalize w0.setRow a9 (List.set [.int .i64 (E2 : Nat)] 0 (.int .i64 ((qb + l.sz : Nat) : Int))).toArray = u1 at H9x J9 ⊢
          rw [hfr.out]
          clear hfr e0 e9 hts
          simp only [put_lit, put_none, List.set_cons_succ, List.set_cons_zero]
          clear hS0 hkw hheap HLw H9w
          try simp only [put_lit, put_none, List.set_cons_succ, List.set_cons_zero]
          have hne9 : ∀ k, k = a9 → opF a8 a9 a10 a11 v2 es2 k := fun k hk => .inr (.inl hk)
          have HOu : Hid (OpAt u1 a8 a9 a10 a11 v2 es2 (((qb + l.sz : Nat) : Int), le', true)) := hide (by
            have hw := HOp.out.keptF K0.out
            exact ⟨J9.out.blk hw.h8 (fun h => hw.h8.ne hw.h9 (by decide) h), H9x.out, J9.out.blk hw.h10 (fun h => HNE.out h.symm), J9.out.blk hw.h11 (fun h => hw.h11.ne hw.h9 (by decide) h), hw.own.kept J9.out (fun k hk => by subst hk; exact hw.own.ne hw.h9 (by decide) (by decide) (by decide))⟩)
          have Ku : Hid (Kept (fun _ => False) w u1) := hide ((Kw.out.trans K0.out (fun _ _ h => h)).trans J9.out (fun k hk h => by have := HGE.out; omega))
          have hDs3 : Hid (∀ D' ∈ D :: Ds, u1.heap[D']? = some (.deferred (some [])) ∧ w.heap.size ≤ D' ∧ ¬ opF a8 a9 a10 a11 v2 es2 D') := hide (fun D' hD' => by
            obtain ⟨g1, g2, g3⟩ := hDs2.out D' hD'
            have hlt1 := (Array.getElem?_eq_some_iff.1 g1).1
            have h3 := (K0.out.block D' hlt1 (fun h => h)).trans g1
            exact ⟨(J9.out.block D' (Array.getElem?_eq_some_iff.1 h3).1 (fun h => g3 (hne9 _ h))).trans h3, g2, g3⟩)
          clear H9x J9 K0 H9 HOp Kw hDs2 c11
          go_wp2
          refine ⟨⟨i + 1, v2, es2, (((qb + l.sz : Nat) : Int), le', true), D :: Ds, ⟨by omega, hlen3.out, by simp only; omega, HEnb.out⟩, HOu.out, by simpa using HT2.out, fun k hk => hF2.out k (.inr (.inr (.inr (.inr hk)))), Ku.out, hND2.out, hDs3.out, _, _, _, _, _, _, _, _, _, _, _, _, _, _, _, _, _, _, _, _, _, _, _, _, _, _, _, _, _, _, _, _, _, _, _, _, _, _, _, _, _, _, _, _, _, _, _, _, _, _, _, _, _, _, _, _, _, _, _, rfl⟩, ?_⟩
          simp [intOf]
          omega
      case stop =>
        intros
        contradiction
    · obtain rfl : i = l.sg := by have := Hi.out; omega
      have Hfin : Hid (T = (es.map Ev.en, (E : Int))) := hide (by rw [← HTT.out, Nat.sub_self]; simp [opRun])
      have c9 : wr.cell? ⟨a9, 0, none⟩ = some (.int .i64 (E : Nat)) := HO.out.h9.cell 0
      go_wp2_with (with_reducible refine stop_store 3 ?_)
      refine hide ?_
      refine aw_store1 (v := .int .i64 (E : Nat)) (off := 4) Hi3.out Hs3.out rfl rfl rfl rfl HLr.out (by simp) ?_
      intro wz hbz hkz hzz
      have HBz : Hid (LogAt wz b { l with en := E }) := hide hbz
      have HOz := hide (HO.out.kept hkz (fun k hk => by subst hk; exact HO.out.ne HLr.out (by decide) (by decide) (by decide) (by decide) (by decide) (by decide)))
      have c8 : wz.cell? ⟨a8, 0, none⟩ = some v := HOz.out.h8.cell 0
      obtain ⟨sv, hsv⟩ : ∃ s : Sl, v = .slice s.a s.n s.c := by
        obtain ⟨ao, c, e⟩ := ownsRow_slice HO.out.own.1
        exact ⟨⟨ao, _, c⟩, e⟩
      subst hsv
      have HKz := hide hkz
      clear hbz hkz hzz c9 c11 c2
      try simp only [put_lit, put_none, List.set_cons_succ, List.set_cons_zero]
      go_wp2
      show LeavesInM _ _ _ _ _ _ _ _ _
      refine leaves_all Ds wz HND.out (fun D hD => ?_) (fun W' hk => ?_)
      · exact (HKz.out.block D (Array.getElem?_eq_some_iff.1 (HDs.out D hD).1).1 (fun h => by
          have h1 := (HDs.out D hD).2.1
          have h2 := HB.out
          omega)).trans (HDs.out D hD).1
      refine ⟨_, results_tmp2 (fn := Try.f14) (t := 6) (u := 7) rfl _ _ _, .slice sv.a sv.n sv.c, es, rfl, HOz.out.own.kept hk (fun k hk' he => (HDs.out k hk').2.2 (.inr (.inr (.inr (.inr he))))), by rw [Hfin.out], HGev.out, E, by rw [Hfin.out], by have := HEi.out; have := Hi.out; have := Hg.out; omega, hk.blk HBz.out (fun h => by have h1 := (HDs.out b h).2.1; have h2 := HB.out; omega), ((HKr.out.mono (T := fun k => k = b) (fun _ _ h => h.elim)).trans HKz.out (fun _ _ h => h)).trans hk (fun k hk' h => by have h1 := (HDs.out k h).2.1; omega)⟩
end Go.Proofs.Ytbbhchmdggfncaa
