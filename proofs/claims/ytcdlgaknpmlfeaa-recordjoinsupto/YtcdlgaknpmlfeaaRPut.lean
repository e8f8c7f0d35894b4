/-
  putWrites, of package record.
-/
import Derived.Test.YtcdlgaknpmlfeaaRRightB
namespace Go.Proofs.Ytcdlgaknpmlfeaa
open Go.RowKit Go.Shelf
set_option linter.unusedSimpArgs false
set_option linter.unusedVariables false

theorem penNum_byte (A : List Nat) (x : Nat) (h : x < 256) : penNum A (x : Int) 1 = A ++ [x] := by
  have hf : fitsN (x : Int) 1 = true := by unfold fitsN; simp; omega
  unfold penNum
  rw [if_pos hf]
  simp [numB]
  omega
theorem penNum_two (A : List Nat) (x : Int) (h0 : 0 ≤ x) (h : x < 65536) : penNum A x 2 = A ++ numB x.toNat 2 := by
  have hf : fitsN x 2 = true := by unfold fitsN; simp; omega
  unfold penNum
  rw [if_pos hf]
  rfl
theorem encWs_snoc (l : List Wr) (x : Wr) : encWs (l ++ [x]) = encWs l ++ (numB x.blk.toNat 2 ++ x.B) := by simp [encWs, encW]
theorem number_pnB (w0 w : World) (p : Nat) (A : List Nat) (hp : Pn w0 w p A) (hl : A.length ≤ 90000000) (n m : Int) (hn : n ≤ 9223372036854775807) {b : Nat} {L : List Value} {t : TypeId} (hb : Blk w b L t) (ht : t ≠ 5) (ht2 : t ≠ 60) :
    Calls Try.prog 32 #[.pointer (some ⟨p, 0, none⟩), .int .i64 n, .int .i64 m] w fun e w' => e = .returned (.bool (fitsN n m)) ∧ Pn w0 w' p (penNum A n m) ∧ Blk w' b L t := by
  obtain ⟨h1, h2, v, h3, h4⟩ := hp
  refine (number_at w p v A h3 hl n m hn).mono ?_
  rintro e w' ⟨v', rfl, hp', hk, hm⟩
  refine ⟨rfl, Pn.of h1 h2 h4 hp' hk hm, hk.blk hb (fun h => ?_)⟩
  rcases h with h | h
  · exact (hb.ne h3.1 ht2) h
  · exact h3.ne (L := []) hb ht h
theorem take_wr {l : List Wv} {k : Nat} (hk : k < l.length) : (l.take (k + 1)).map Wv.wr = (l.take k).map Wv.wr ++ [l[k].wr] := by
  rw [List.take_succ_eq_append_getElem hk, List.map_append]; rfl

set_option maxRecDepth 100000 in
set_option maxHeartbeats 4000000 in
theorem putWrites_at (w0 w : World) (p : Nat) (A : List Nat) (v : Value) (l : List Wv) (hp : Pn w0 w p A) (hA : A.length ≤ 100) (h : WsAt w0 v l) (hg : goodFrom (-1) (l.map Wv.wr) = true) :
    Calls Try.prog 33 #[.pointer (some ⟨p, 0, none⟩), v] w fun e w' => (∃ u, e = .returned u) ∧ Pn w0 w' p (A ++ (numB l.length 2 ++ encWs (l.map Wv.wr))) := by
  obtain ⟨ao, cap, rfl⟩ := h.slice
  have hlen := goodFrom_len (l := l.map Wv.wr) (lo := -1) (by decide) (by decide) hg
  rw [List.length_map] at hlen
  have hmem : ∀ k (hk : k < l.length), 0 ≤ l[k].blk ∧ l[k].blk < 64 ∧ l[k].B.length = 64 := fun k hk => (goodFrom_mem hg l[k].wr (List.mem_map_of_mem (List.getElem_mem hk))).2
  have hel : ∀ k, k ≤ l.length → (encWs ((l.take k).map Wv.wr)).length = 66 * k := fun k hk => by
    rw [encWs_length (fun x hx => by
      obtain ⟨y, hy, rfl⟩ := List.mem_map.1 hx
      exact (goodFrom_mem hg y.wr (List.mem_map_of_mem (List.mem_of_mem_take hy))).2.2.2)]
    simp
    omega
  obtain ⟨i0, hi0, hz0, hs0, hb0⟩ := info_parts Try.info40
  have Hi0 := hide hi0
  have Hz0 := hide hz0
  have HW := hide h
  have HP := hide hp
  have HM := hide hmem
  have HE := hide hel
  have hl64 : l.length ≤ 64 := by omega
  have H2 : Hid (penNum A (l.length : Int) 2 = A ++ numB l.length 2) := hide (by rw [penNum_two _ _ (by omega) (by omega)]; rfl)
  clear h hi0 hz0 hs0 hb0 hp hmem hel hg hlen
  go_enter Try.func33, Try.ntmps33
  go_wp2_with fail
  refine (number_pn w0 w p A HP.out (by omega) _ 2 (by omega)).mono ?_
  rintro e w1 ⟨rfl, hp1⟩
  rw [H2.out] at hp1
  have HP1 := hide hp1
  clear hp1 H2 HP
  go_wp2
  go_loopw [14] (fun i wr => ∃ (k : Nat), i = .int .i64 k ∧ k ≤ l.length ∧ Hid (Pn w0 wr p (A ++ (numB l.length 2 ++ encWs ((l.take k).map Wv.wr)))))
    (fun i _ => l.length - (intOf i).toNat)
  case atStart => exact ⟨0, rfl, Nat.zero_le _, hide (by simpa [encWs] using HP1.out)⟩
  case round =>
    obtain ⟨k, rfl, hk, HI⟩ := hrel
    clear HP1
    by_cases hlt : k < l.length
    · obtain ⟨g, off, rfl, c0, c1, hsrc, hn⟩ := (HW.out.kept HI.out.base).get hlt
      have hm := HM.out k hlt
      have HT := hide (take_wr hlt)
      have HEk := hide (HE.out k hk)
      have HS0 := hide ((HW.out.2.1 l[k] (List.getElem_mem hlt)))
      obtain ⟨x, hx⟩ : ∃ x, x = l[k] := ⟨_, rfl⟩
      rw [← hx] at c0 c1 hm hn HT HS0
      obtain ⟨bk, ⟨xa, xn, xc⟩, xB⟩ := x
      simp only [Wv.wr, Sl.v] at c0 c1 hm hn HT HS0
      obtain ⟨hb0, hb1, hb2⟩ := hm
      obtain rfl : xn = 64 := by omega
      have HXB := hide hb2
      obtain ⟨D, hD⟩ : ∃ D, D = A ++ (numB l.length 2 ++ encWs ((l.take k).map Wv.wr)) := ⟨_, rfl⟩
      have hDl : D.length ≤ 5000 := by rw [hD, List.length_append, List.length_append, numB_length, HEk.out]; omega
      rw [← hD] at HI
      have HDD := hide hD
      have HBK : Hid (penNum D bk 2 = D ++ numB bk.toNat 2) := hide (penNum_two D bk hb0 (by omega))
      have hbi : bk ≤ 9223372036854775807 := by omega
      clear hsrc hn hx hb2 hD hb0 hb1 HM HE
      go_wp2_with (first
        | ((with_reducible refine aw_alloc (t := 40) Hi0.out Hz0.out ?_); intro w2 hw2 hk2 hz2; have Hz2 := hide hz2; clear hz2 c0 c1)
        | ((with_reducible refine aw_store (M := [.int .i64 bk, .slice xa 64 xc]) Try.agg40 rfl rfl rfl (by simp [Value.oneCell']) hw2 (by simp [Value.cells]) ?_); intro w3 hw3 hk3 hz3; rw [put_whole _ _ (by simp [Value.cells])] at hw3; have d0 : w3.cell? ⟨wr.heap.size, 0, none⟩ = some (.int .i64 bk) := hw3.cell 0; have HW3 := hide hw3; have HK3 := hide (hk2.trans hk3 (fun i hi h => by omega)); clear hz3 hw2 hw3 hk2 hk3)
        | fail)
      refine (number_pnB w0 w3 p D (HI.out.kept HK3.out) (by omega) bk 2 hbi HW3.out (by decide) (by decide)).mono ?_
      rintro e w4 ⟨rfl, hp4, hb4⟩
      rw [HBK.out] at hp4
      have d1 : w4.cell? ⟨wr.heap.size, 1, none⟩ = some (.slice xa 64 xc) := hb4.cell 1
      have HP4 := hide hp4
      clear hp4 hb4 HBK HI
      obtain ⟨wz, hwz⟩ : ∃ wz, wz = wr.heap.size := ⟨_, rfl⟩
      rw [← hwz] at d1 ⊢
      clear hwz Hz2 HK3 HW3 d0
      go_wp2
      go_loopw [25] (fun j wq => ∃ (q : Nat), j = .int .i64 q ∧ q ≤ 64 ∧ Hid (Pn w0 wq p (D ++ numB bk.toNat 2 ++ xB.take q)))
        (fun j _ => 64 - (intOf j).toNat)
      case atStart => exact ⟨0, rfl, Nat.zero_le _, hide (by simpa using HP4.out)⟩
      case round =>
        obtain ⟨q, rfl, hq, HJ⟩ := hrel
        clear HP4 d1
        by_cases hlt2 : q < 64
        · obtain ⟨bo, c, e, _, hxl, hxc, _⟩ := HS0.out.kept HJ.out.base
          simp only [Value.slice.injEq] at e
          obtain ⟨rfl, -, rfl⟩ := e
          obtain ⟨sb, so, rfl, hcs⟩ := hxc (by have := HXB.out; omega)
          have hqx : q < xB.length := by have := HXB.out; omega
          have c2 := hcs q _ (BV_get xB q hqx)
          obtain ⟨z, hz⟩ : ∃ z, z = xB[q] := ⟨_, rfl⟩
          rw [← hz] at c2
          have hz256 : z < 256 := by rw [hz]; exact hxl _ (List.getElem_mem _)
          have HZ : Hid (xB.take (q + 1) = xB.take q ++ [z]) := hide (by rw [List.take_succ_eq_append_getElem hqx, hz])
          have HZ2 := hide (penNum_byte (D ++ numB bk.toNat 2 ++ xB.take q) z hz256)
          have HL : Hid ((D ++ numB bk.toNat 2 ++ xB.take q).length ≤ 90000000) := hide (by simp [numB_length]; omega)
          clear hxl hxc hcs hz hqx
          go_wp2_with fail
          refine (number_pn w0 _ p _ HJ.out HL.out _ 1 (by omega)).mono ?_
          rintro e w5 ⟨rfl, hp5⟩
          rw [HZ2.out] at hp5
          have HP5 := hide hp5
          clear hp5 c2 HZ2 HJ
          go_wp2
          go_roundw
          case rel => exact ⟨q + 1, by simp, by omega, hide (by rw [HZ.out, ← List.append_assoc]; exact HP5.out)⟩
          case measure => simp [intOf]; omega
        · obtain rfl : q = 64 := by omega
          go_wp2
          go_roundw
          case rel => exact ⟨k + 1, by simp, by omega, hide (by
            have h := HJ.out
            rw [List.take_of_length_le (by have := HXB.out; omega), HDD.out] at h
            rw [HT.out, encWs_snoc]
            simpa using h)⟩
          case measure => simp [intOf]; omega
    · obtain rfl : l.length = k := by omega
      go_wp2
      go_end0
      exact ⟨⟨_, rfl⟩, by simpa using HI.out⟩
end Go.Proofs.Ytcdlgaknpmlfeaa
