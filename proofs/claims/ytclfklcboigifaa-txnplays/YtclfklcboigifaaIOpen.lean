/-
  Bytes, writes, records and lists of writes among a law's arguments: how they read.
-/
import Derived.Test.YtclfklcboigifaaRMerge
import Derived.ProofKit
import Derived.OpenShut
import Derived.ShutString
import Derived.ChangeOld
import Derived.Deep.Slices
namespace Go.Proofs.Ytclfklcboigifaa
open Go.ChangeShapes Go.WideShapes Go.ChangeAt Go.RowKit
set_option linter.unusedSimpArgs false
set_option linter.unusedVariables false

theorem Try.ownK : ownKnob Try.prog.godebug = none := by kernel_rfl
theorem Try.laidOutK : laidOutB Try.prog = true := by kernel_rfl
theorem Try.cells5 : Try.prog.cellsOf 5 = 1 := by kernel_rfl
theorem Try.cells63 : Try.prog.cellsOf 63 = 2 := by kernel_rfl
theorem Try.cells3 : Try.prog.cellsOf 3 = 1 := by kernel_rfl
theorem Try.cells40 : Try.prog.cellsOf 40 = 1 := by kernel_rfl
theorem Try.cells33 : Try.prog.cellsOf 33 = 1 := by kernel_rfl
theorem Try.fields53 : ∃ fs, Try.prog.underlying 63 = some (.struct fs) ∧ (fs.toList.map fun f => (f.type, f.offset)) = [(3, 0), (40, 1)] := ⟨_, Try.underlying63, by kernel_rfl⟩
theorem bulk_pos {H : Type} (d : DataW H) : 1 ≤ Rows.uptoBulk d := by
  cases d with
  | lit l => cases l <;> simp [Rows.uptoBulk]
  | nil => simp [Rows.uptoBulk]
  | ptr d => simp [Rows.uptoBulk]
  | slice elems spare => simp [Rows.uptoBulk]
  | agg parts => simp [Rows.uptoBulk]
  | iface t d => simp [Rows.uptoBulk]
  | map entries => simp [Rows.uptoBulk]
  | held h => simp [Rows.uptoBulk]
theorem bulk_all {H : Type} : ∀ l : List (DataW H), Rows.uptoBulkAll l = (l.map Rows.uptoBulk).sum
  | [] => rfl
  | d :: l => by simp only [Rows.uptoBulkAll, List.map_cons, List.sum_cons]; rw [bulk_all l]
theorem sum_le {α : Type} (f g : α → Nat) : ∀ l : List α, (∀ x ∈ l, f x ≤ g x) → (l.map f).sum ≤ (l.map g).sum
  | [], _ => Nat.le_refl _
  | x :: l, h => by
    have := sum_le f g l (fun y hy => h y (by simp [hy]))
    have := h x (by simp)
    simp only [List.map_cons, List.sum_cons]
    omega
theorem sum_one {α : Type} (f : α → Nat) (l : List α) (h : ∀ x ∈ l, 1 ≤ f x) : l.length ≤ (l.map f).sum := by
  induction l with
  | nil => simp
  | cons x l ih =>
    have := ih (fun y hy => h y (by simp [hy]))
    have := h x (by simp)
    simp only [List.map_cons, List.sum_cons, List.length_cons]
    omega
theorem le_sum_mem : ∀ {l : List Nat} {n : Nat}, n ∈ l → n ≤ l.sum
  | x :: l, n, h => by
    rw [List.sum_cons]
    rcases List.mem_cons.1 h with rfl | h
    · omega
    · have := le_sum_mem h
      omega
/-- How much writes are, as the bound counts. -/
def wsBulk (l : List Wv) : Nat := (l.map fun y => y.B.length + 3).sum
theorem enc_cells {w : World} {g off : Nat} {l : List EntB} (h : ∀ k (hk : k < l.length), Cells w g (off + k * 2) [.int .i64 l[k].1, .slice l[k].2.a l[k].2.n l[k].2.c]) : Cells w g off (encE ekB evB l) := by
  intro j u hj
  have hjl : j < l.length * 2 := by
    have := (List.getElem?_eq_some_iff.1 hj).1
    rwa [encE_length] at this
  have hk : j / 2 < l.length := by omega
  rcases Nat.mod_two_eq_zero_or_one j with hm | hm
  · have e : j = j / 2 * 2 := by omega
    rw [e, encE_key (ek := ekB) (ev := evB) l (j / 2) hk] at hj
    have := h (j / 2) hk 0 u (by simpa using hj)
    rw [e]
    simpa using this
  · have e : j = j / 2 * 2 + 1 := by omega
    rw [e, encE_val (ek := ekB) (ev := evB) l (j / 2) hk] at hj
    have := h (j / 2) hk 1 u (by simpa using hj)
    rw [e, ← Nat.add_assoc]
    exact this

section
variable {H : Type} {enc : TypeId × Value → H} {w : World} {base : Nat} {spare : Nat → Bool} {held : Bool} {fuel : Nat} {v : Value} {x : DataW H × List MemPlace}
theorem read_bytes (h : DataW.trod enc Try.prog w base spare held fuel 40 [v] = some x) : ∃ B : List Nat, B.length ≤ 9223372036854775807 ∧ Src w v B ∧ B.length + 1 ≤ Rows.uptoBulk x.1 := by
  rcases Go.Deep.open_slice1 Try.underlying40 Try.cells5 h with ⟨hcs, hxe⟩ | ⟨a, len, cap, m, n, V, D, Pl, hcs, _, hl, hcm, hm, hxe, hx⟩
  · simp at hcs
    subst hcs
    exact ⟨[], Nat.zero_le _, Src.nil w, by rw [hxe]; simp [Rows.uptoBulk]⟩
  · simp at hcs
    subst hcs
    have hlm : len ≤ m := by rw [hm]; split <;> omega
    have each : ∀ i, i < len → ∃ q : Nat, V i = .int .u8 (q : Int) ∧ q < 256 := by
      intro i hi
      obtain ⟨q, e0, _, wq⟩ := DataW.trod_int Try.underlying5 (hx i (by omega)).2
      have hb := bounds_u8 wq
      simp at e0
      exact ⟨q.toNat, by rw [e0]; congr 1; omega, by omega⟩
    have hnum : ∀ i, i < len → V i = .int .u8 ((match V i with | .int _ n => n.toNat | _ => 0 : Nat) : Int) ∧ (match V i with | .int _ n => n.toNat | _ => 0 : Nat) < 256 := by
      intro i hi
      obtain ⟨q, e, hq⟩ := each i hi
      rw [e]
      exact ⟨by simp, by simpa using hq⟩
    refine ⟨(List.range len).map (fun i => match V i with | .int _ n => n.toNat | _ => 0), by simp; unfold maxLen at hcm; omega, ⟨some a, cap, by simp, by simpa using hl, ?_, ?_, fun h => by cases h⟩, by
      rw [hxe]
      have h1 := sum_one Rows.uptoBulk ((List.range len).map D) (fun d _ => bulk_pos d)
      simp only [Rows.uptoBulk, bulk_all, List.length_map, List.length_range] at h1 ⊢
      omega⟩
    · intro u hu
      simp only [List.mem_map, List.mem_range] at hu
      obtain ⟨i, hi, rfl⟩ := hu
      exact (hnum i hi).2
    · intro h0
      simp at h0
      have h1 := (hx 0 (by omega)).1
      obtain ⟨sb, so, sp⟩ := a
      have hsp : sp = none := by
        simp [Addr.add] at h1
        simpa using World.cell?_spot h1
      subst hsp
      refine ⟨sb, so, rfl, ?_⟩
      intro j u hj
      simp only [BV, List.map_map] at hj
      obtain ⟨hj1, hj2⟩ := List.getElem?_eq_some_iff.1 hj
      simp only [List.length_map, List.length_range] at hj1
      simp only [List.getElem_map, List.getElem_range, Function.comp] at hj2
      have h2 := (hx j (by omega)).1
      rw [addr_add] at h2
      rw [h2, (hnum j hj1).1, hj2]

theorem src_sl {w : World} {v : Value} {B : List Nat} (h : Src w v B) : ∃ s : Sl, v = .slice s.a s.n s.c := by
  obtain ⟨bo, c, e, _⟩ := h
  exact ⟨⟨bo, B.length, c⟩, e⟩
theorem two_of : ∀ {cs : List Value}, cs.length = 2 → ∃ v0 v1, cs = [v0, v1]
  | [v0, v1], _ => ⟨v0, v1, rfl⟩
theorem read_write {cs : List Value} (hl : cs.length = 2) (h : DataW.trod enc Try.prog w base spare held fuel 63 cs = some x) : ∃ y : Wv, cs = [.int .i64 y.blk, .slice y.s.a y.s.n y.s.c] ∧ Src w y.s.v y.B ∧ y.B.length + 3 ≤ Rows.uptoBulk x.1 := by
  obtain ⟨fs, hu, hfs⟩ := Try.fields53
  obtain ⟨xs, m, _, hxe, _, hxl, hel⟩ := DataW.trod_struct hu h
  have hsz : fs.size = 2 := by have := congrArg List.length hfs; simpa using this
  have get : ∀ (i : Nat) (t o : Nat), (fs.toList.map fun f => (f.type, f.offset))[i]? = some (t, o) → Try.prog.cellsOf t = 1 → o < 2 → ∃ y, xs[i]? = some y ∧ DataW.trod enc Try.prog w base spare held m t [cs.getD o (.int .i64 0)] = some y := by
    intro i t o hi hc ho
    simp only [List.getElem?_map, Option.map_eq_some_iff] at hi
    obtain ⟨f, hf, hfe⟩ := hi
    have hf' : fs[i]? = some f := by simpa using hf
    have h1 := hel i f hf'
    have ht : f.type = t := congrArg Prod.fst hfe
    have hof : f.offset = o := congrArg Prod.snd hfe
    rw [ht, hof, hc] at h1
    have hi5 : i < fs.size := (Array.getElem?_eq_some_iff.1 hf').1
    obtain ⟨y, hy⟩ : ∃ y, xs[i]? = some y := ⟨_, List.getElem?_eq_getElem (by omega)⟩
    rw [hy] at h1
    have hd : (cs.drop o).take 1 = [cs.getD o (.int .i64 0)] := by
      rw [List.drop_eq_getElem_cons (by omega), List.getD_eq_getElem?_getD, List.getElem?_eq_getElem (by omega)]
      rfl
    rw [hd] at h1
    exact ⟨y, hy, h1⟩
  obtain ⟨v0, v1, rfl⟩ : ∃ v0 v1, cs = [v0, v1] := two_of hl
  obtain ⟨y0, x0, g0⟩ := get 0 3 0 (by rw [hfs]; rfl) Try.cells3 (by decide)
  obtain ⟨y1, x1, g1⟩ := get 1 40 1 (by rw [hfs]; rfl) Try.cells40 (by decide)
  obtain ⟨k, e0, _, _⟩ := DataW.trod_int Try.underlying3 g0
  obtain ⟨B, b1, b2, b3⟩ := read_bytes g1
  have hbk : B.length + 3 ≤ Rows.uptoBulk x.1 := by
    have hx2 : xs = [y0, y1] := by
      match xs, hxl, x0, x1 with
      | [a, b], _, x0, x1 => simp at x0 x1; rw [x0, x1]
      | [], hxl, _, _ => rw [hsz] at hxl; simp at hxl
      | [_], hxl, _, _ => rw [hsz] at hxl; simp at hxl
      | _ :: _ :: _ :: _, hxl, _, _ => rw [hsz] at hxl; simp at hxl
    rw [hxe, hx2]
    have := bulk_pos y0.1
    simp only [Rows.uptoBulk, Rows.uptoBulkAll, List.map_cons, List.map_nil]
    omega
  simp at e0 b2
  subst e0
  obtain ⟨s, e⟩ := src_sl b2
  subst e
  exact ⟨⟨k, s, B⟩, rfl, b2, hbk⟩
set_option maxRecDepth 100000 in
theorem read_ws (h : DataW.trod enc Try.prog w base spare held fuel 33 [v] = some x) : ∃ (s : Sl) (l : List Wv), v = .slice s.a s.n s.c ∧ WsAt w s.v l ∧ wsBulk l + 1 ≤ Rows.uptoBulk x.1 := by
  rcases Go.Deep.open_slice Try.underlying33 h with ⟨hcs, hxe⟩ | ⟨a, len, cap, m, n, D, Pl, hcs, _, hl, hcm, hm, hxe, hx⟩
  · simp at hcs
    exact ⟨⟨none, 0, 0⟩, [], hcs, WsAt.nil w, by rw [hxe]; simp [Rows.uptoBulk, wsBulk]⟩
  · simp at hcs
    subst hcs
    have hlm : len ≤ m := by rw [hm]; split <;> omega
    have each : ∀ k, k < len → ∃ (sb so : Nat) (y : Wv), a = ⟨sb, so, none⟩ ∧ Cells w sb (so + k * 2) [.int .i64 y.blk, .slice y.s.a y.s.n y.s.c] ∧ Src w y.s.v y.B ∧ y.B.length + 3 ≤ Rows.uptoBulk (D k) := by
      intro k hk
      obtain ⟨cs', h1, h2⟩ := hx k (by omega)
      rw [Try.cells63] at h1
      obtain ⟨_, hlen, hcell⟩ := World.cells?_some h1
      obtain ⟨y, rfl, hop, hbk⟩ := read_write hlen h2
      obtain ⟨cs0, g1, g2⟩ := hx 0 (by omega)
      rw [Try.cells63] at g1
      obtain ⟨_, glen, gcell⟩ := World.cells?_some g1
      have h0 := gcell 0 (by omega)
      rw [List.getElem?_eq_getElem (by omega)] at h0
      obtain ⟨sb, so, sp⟩ := a
      have hsp : sp = none := by
        simp [Addr.add] at h0
        simpa using World.cell?_spot h0
      subst hsp
      refine ⟨sb, so, y, rfl, ?_, hop, hbk⟩
      intro j u hj
      have h3 := hcell j (by
        rcases Nat.lt_or_ge j 2 with h | h
        · exact h
        · rw [List.getElem?_eq_none (by simpa using h)] at hj; cases hj)
      rw [addr_add, addr_add] at h3
      rw [h3, hj]
    obtain ⟨f, hf⟩ : ∃ f : Nat → Wv, ∀ k, k < len → ∃ sb so, a = ⟨sb, so, none⟩ ∧ Cells w sb (so + k * 2) [.int .i64 (f k).blk, .slice (f k).s.a (f k).s.n (f k).s.c] ∧ Src w (f k).s.v (f k).B ∧ (f k).B.length + 3 ≤ Rows.uptoBulk (D k) := by
      have : ∀ k, ∃ y : Wv, k < len → ∃ sb so, a = ⟨sb, so, none⟩ ∧ Cells w sb (so + k * 2) [.int .i64 y.blk, .slice y.s.a y.s.n y.s.c] ∧ Src w y.s.v y.B ∧ y.B.length + 3 ≤ Rows.uptoBulk (D k) := by
        intro k
        by_cases hk : k < len
        · obtain ⟨sb, so, o, h1, h2, h3⟩ := each k hk
          exact ⟨o, fun _ => ⟨sb, so, h1, h2, h3⟩⟩
        · exact ⟨⟨0, ⟨none, 0, 0⟩, []⟩, fun h => absurd h hk⟩
      exact ⟨fun k => Classical.choose (this k), fun k hk => Classical.choose_spec (this k) hk⟩
    refine ⟨⟨some a, len, cap⟩, (List.range len).map f, rfl, ⟨⟨some a, cap, by simp [Sl.v], by simpa using hl, fun h0 => ?_⟩, ?_, by simp; unfold maxLen at hcm; omega⟩, ?_⟩
    · simp at h0
      obtain ⟨sb, so, rfl, _, _⟩ := hf 0 h0
      refine ⟨sb, so, rfl, enc_cells (fun k hk => ?_)⟩
      simp at hk
      obtain ⟨sb', so', e, h2, _⟩ := hf k hk
      cases e
      simpa [Wv.ent] using h2
    · intro y hy
      simp only [List.mem_map, List.mem_range] at hy
      obtain ⟨k, hk, rfl⟩ := hy
      obtain ⟨_, _, _, _, h3, _⟩ := hf k hk
      exact h3
    · rw [hxe]
      have h1 := sum_le (fun k => (f k).B.length + 3) (fun k => Rows.uptoBulk (D k)) (List.range len) (fun k hk => by
        obtain ⟨_, _, _, _, _, h⟩ := hf k (List.mem_range.1 hk)
        exact h)
      simp only [Rows.uptoBulk, bulk_all, wsBulk, List.map_map, Function.comp_def] at h1 ⊢
      omega
end
theorem open_ws {H : Type} {enc : TypeId × Value → H} {w : World} {base : Nat} {spare : Nat → Bool} {held : Bool} {ao : Option Addr} {len cap : Nat} {d : DataW H} {p : List MemPlace}
    (h : DataW.Trod enc Try.prog w base spare held 33 (.slice ao len cap) d p) : ∃ l : List Wv, WsAt w (.slice ao len cap) l ∧ wsBulk l ≤ Rows.uptoBulk d := by
  obtain ⟨fuel, hf⟩ := h
  obtain ⟨s, l, e, h1, h2⟩ := read_ws (v := .slice ao len cap) (x := (d, p)) (by simpa [Value.cells] using hf)
  exact ⟨l, by rw [e]; exact h1, Nat.le_of_succ_le h2⟩
set_option maxRecDepth 100000 in
theorem open_ls {H : Type} {enc : TypeId × Value → H} {w : World} {base : Nat} {spare : Nat → Bool} {held : Bool} {ao : Option Addr} {len cap : Nat} {d : DataW H} {p : List MemPlace}
    (h : DataW.Trod enc Try.prog w base spare held 78 (.slice ao len cap) d p) : ∃ ls : List (Sl × List Wv), LsAt w (.slice ao len cap) ls ∧ (ls.map fun x => wsBulk x.2).sum ≤ Rows.uptoBulk d := by
  obtain ⟨fuel, htr⟩ := h
  rcases Go.Deep.open_slice1 Try.underlying78 Try.cells33 htr with ⟨hcs, hxe⟩ | ⟨a, len, cap, m, n, V, D, Pl, hcs, _, hl, hcm, hm, hxe, hx⟩
  · simp [Value.cells] at hcs
    obtain ⟨rfl, rfl, rfl⟩ := hcs
    exact ⟨[], ⟨⟨none, 0, rfl, by simp, fun h => absurd h (by simp), fun _ => rfl⟩, by simp, by simp⟩, by simp⟩
  · simp [Value.cells] at hcs
    obtain ⟨rfl, rfl, rfl⟩ := hcs
    have hlm : len ≤ m := by rw [hm]; split <;> omega
    have hd : d = .slice ((List.range len).map D) ((List.range (m - len)).map fun j => D (len + j)) := congrArg Prod.fst hxe
    obtain ⟨f, hf⟩ : ∃ f : Nat → Sl × List Wv, ∀ k, k < len → V k = .slice (f k).1.a (f k).1.n (f k).1.c ∧ WsAt w (f k).1.v (f k).2 ∧ wsBulk (f k).2 + 1 ≤ Rows.uptoBulk (D k) := by
      have : ∀ k, ∃ y : Sl × List Wv, k < len → V k = .slice y.1.a y.1.n y.1.c ∧ WsAt w y.1.v y.2 ∧ wsBulk y.2 + 1 ≤ Rows.uptoBulk (D k) := by
        intro k
        by_cases hk : k < len
        · obtain ⟨s, l, e, h1, h2⟩ := read_ws (hx k (by omega)).2
          exact ⟨(s, l), fun _ => ⟨e, h1, h2⟩⟩
        · exact ⟨(⟨none, 0, 0⟩, []), fun h => absurd h hk⟩
      exact ⟨fun k => Classical.choose (this k), fun k hk => Classical.choose_spec (this k) hk⟩
    refine ⟨(List.range len).map f, ⟨⟨some a, cap, by simp, by simpa using hl, fun h0 => ?_, fun h => by cases h⟩, ?_, by simp; unfold maxLen at hcm; omega⟩, ?_⟩
    · simp at h0
      have h1 := (hx 0 (by omega)).1
      obtain ⟨sb, so, sp⟩ := a
      have hsp : sp = none := by
        simp [Addr.add] at h1
        simpa using World.cell?_spot h1
      subst hsp
      refine ⟨sb, so, rfl, ?_⟩
      intro j u hj
      simp only [List.map_map] at hj
      obtain ⟨hj1, hj2⟩ := List.getElem?_eq_some_iff.1 hj
      simp only [List.length_map, List.length_range] at hj1
      simp only [List.getElem_map, List.getElem_range, Function.comp] at hj2
      have h2 := (hx j (by omega)).1
      rw [addr_add] at h2
      rw [h2, (hf j hj1).1, ← hj2]
    · intro y hy
      simp only [List.mem_map, List.mem_range] at hy
      obtain ⟨k, hk, rfl⟩ := hy
      exact (hf k hk).2.1
    · rw [hd]
      have h1 := sum_le (fun k => wsBulk (f k).2) (fun k => Rows.uptoBulk (D k)) (List.range len) (fun k hk => by have := (hf k (List.mem_range.1 hk)).2.2; omega)
      simp only [Rows.uptoBulk, bulk_all, List.map_map, Function.comp_def] at h1 ⊢
      omega
/-- What the bound gives: how many writes there are, and how long each. -/
theorem wsBulk_len (l : List Wv) : 3 * l.length ≤ wsBulk l := by
  unfold wsBulk
  induction l with
  | nil => simp
  | cons x l ih =>
    simp only [List.map_cons, List.sum_cons, List.length_cons]
    omega
theorem wsBulk_mem {l : List Wv} {y : Wv} (h : y ∈ l) : y.B.length ≤ wsBulk l := by
  have h1 : (y.B.length + 3) ∈ (l.map fun y => y.B.length + 3) := List.mem_map.2 ⟨y, h, rfl⟩
  have := le_sum_mem h1
  unfold wsBulk
  omega
theorem wsBulk_app (l m : List Wv) : wsBulk (l ++ m) = wsBulk l + wsBulk m := by simp [wsBulk]
theorem upto_le {H : Type} {l : List (DataW H)} (h : Rows.uptoSmall H l = true) : (l.map Rows.uptoBulk).sum ≤ 1048576 := by
  have h1 : Rows.uptoBulkAll l ≤ 1048576 := of_decide_eq_true h
  rwa [bulk_all] at h1
end Go.Proofs.Ytclfklcboigifaa
