/-
  Records and their bytes: plain functions over lists of numbers. No condition beyond each law's own premises.
-/
import Derived.Test.YtbbhchmdggfncaaJ11
namespace Go.Proofs.Ytbbhchmdggfncaa
set_option linter.unusedSimpArgs false
set_option linter.unusedVariables false
set_option maxRecDepth 100000

structure Rc where
  kind : Int
  tl : Int
  num : Int
  ws : List Wr
/-- Blocks that rise above lo, each with its 64 bytes. -/
def goodFrom : Int → List Wr → Bool
  | _, [] => true
  | lo, w :: l => decide (lo < w.blk ∧ 0 ≤ w.blk ∧ w.blk < 64 ∧ w.B.length = 64) && goodFrom w.blk l
def tnOk (r : Rc) : Bool := decide (1 ≤ r.tl ∧ r.tl ≤ 2147483647 ∧ 0 ≤ r.num ∧ r.num ≤ 1099511627776)
def rightR (r : Rc) : Bool :=
  if r.kind = 2 then decide (r.tl = 0 ∧ r.num = 0 ∧ r.ws.length = 0)
  else if r.kind = 1 then tnOk r && decide (r.ws.length = 0)
  else if r.kind = 3 then tnOk r && decide (0 < r.num) && goodFrom (-1) r.ws
  else false
def encW (w : Wr) : List Nat := numB w.blk.toNat 2 ++ w.B
def encWs (l : List Wr) : List Nat := l.flatMap encW
def putR (r : Rc) : List Nat :=
  numB r.kind.toNat 1 ++ (if r.kind = 2 then [] else numB r.tl.toNat 4 ++ (numB r.num.toNat 8 ++ (if r.kind = 3 then numB r.ws.length 2 ++ encWs r.ws else [])))
theorem goodFrom_mem : ∀ {l : List Wr} {lo : Int}, goodFrom lo l = true → ∀ w ∈ l, lo < w.blk ∧ 0 ≤ w.blk ∧ w.blk < 64 ∧ w.B.length = 64
  | x :: l, lo, h, w, hw => by
    simp only [goodFrom, Bool.and_eq_true, decide_eq_true_eq] at h
    rcases List.mem_cons.1 hw with rfl | hw
    · exact h.1
    · have := goodFrom_mem h.2 w hw
      exact ⟨by omega, this.2⟩
theorem goodFrom_len : ∀ {l : List Wr} {lo : Int}, -1 ≤ lo → lo ≤ 63 → goodFrom lo l = true → (l.length : Int) ≤ 63 - lo
  | [], lo, h0, h1, _ => by simp; omega
  | x :: l, lo, h0, h1, h => by
    simp only [goodFrom, Bool.and_eq_true, decide_eq_true_eq] at h
    have := goodFrom_len (l := l) (lo := x.blk) (by omega) (by omega) h.2
    simp only [List.length_cons]
    omega
theorem encWs_length : ∀ {l : List Wr}, (∀ w ∈ l, w.B.length = 64) → (encWs l).length = 66 * l.length
  | [], _ => rfl
  | x :: l, h => by
    have h1 := h x (by simp)
    have h2 := encWs_length (l := l) (fun w hw => h w (by simp [hw]))
    unfold encWs at h2 ⊢
    rw [List.flatMap_cons, List.length_append, h2]
    simp [encW, numB_length, h1]
    omega
/-- So many writes are scanned. -/
def scanWs : Nat → List Nat → Int → List Wr × List Nat × Int
  | 0, S, E => ([], S, E)
  | n + 1, S, E =>
    if E ≠ 0 then ([], S, E)
    else if (scanNum S E 2).2.1.length < 64 then ([], (scanNum S E 2).2.1, 20)
    else (⟨(scanNum S E 2).1, (scanNum S E 2).2.1.take 64⟩ :: (scanWs n ((scanNum S E 2).2.1.drop 64) (scanNum S E 2).2.2).1, (scanWs n ((scanNum S E 2).2.1.drop 64) (scanNum S E 2).2.2).2)
theorem scanWs_put : ∀ (l : List Wr) (lo : Int) (R : List Nat), goodFrom lo l = true → scanWs l.length (encWs l ++ R) 0 = (l, R, 0)
  | [], lo, R, _ => rfl
  | w :: l, lo, R, h => by
    have hm := goodFrom_mem h w (by simp)
    simp only [goodFrom, Bool.and_eq_true] at h
    have ih := scanWs_put l w.blk R h.2
    have e : encWs (w :: l) ++ R = numB w.blk.toNat 2 ++ (w.B ++ (encWs l ++ R)) := by simp [encWs, encW]
    have hs := sn2 w.blk.toNat (w.B ++ (encWs l ++ R)) (by omega)
    rw [List.length_cons, e]
    unfold scanWs
    rw [if_neg (by simp), hs]
    simp only []
    rw [if_neg (by simp; omega), List.drop_left' hm.2.2.2, List.take_left' hm.2.2.2, ih]
    have : ((w.blk.toNat : Nat) : Int) = w.blk := by omega
    rw [this]
/-- What a record's bytes tell: the record, what is left, the error. -/
def readR (b : List Nat) : Rc × List Nat × Int :=
  if (scanNum b 0 1).1 = 2 then (⟨(scanNum b 0 1).1, 0, 0, []⟩, (scanNum b 0 1).2)
  else
    let s1 := scanNum (scanNum b 0 1).2.1 (scanNum b 0 1).2.2 4
    let s2 := scanNum s1.2.1 s1.2.2 8
    if (scanNum b 0 1).1 = 3 then
      let s3 := scanNum s2.2.1 s2.2.2 2
      (⟨(scanNum b 0 1).1, s1.1, s2.1, (scanWs s3.1.toNat s3.2.1 s3.2.2).1⟩, (scanWs s3.1.toNat s3.2.1 s3.2.2).2)
    else (⟨(scanNum b 0 1).1, s1.1, s2.1, []⟩, s2.2)
def getR (b : List Nat) : Option Rc := if (readR b).2.2 ≠ 0 ∨ (readR b).2.1 ≠ [] ∨ rightR (readR b).1 = false then none else some (readR b).1
theorem sn1 (n : Nat) (R : List Nat) (hn : n < 256) : scanNum (numB n 1 ++ R) 0 1 = ((n : Int), R, 0) := scanNum_num n 1 R (by decide) (by decide) (by simpa using hn) (by omega)
theorem readR_put (r : Rc) (hr : rightR r = true) : readR (putR r) = (r, [], 0) := by
  obtain ⟨kd, tl, num, ws⟩ := r
  unfold rightR at hr
  simp only [] at hr
  by_cases h2 : kd = 2
  · subst h2
    rw [if_pos rfl] at hr
    simp at hr
    obtain ⟨rfl, rfl, rfl⟩ := hr
    have e : putR ⟨2, 0, 0, []⟩ = numB 2 1 ++ [] := by simp [putR]
    unfold readR
    rw [e, sn1 2 [] (by decide)]
    rfl
  · rw [if_neg h2] at hr
    have ht : tnOk ⟨kd, tl, num, ws⟩ = true ∧ (kd = 1 ∨ kd = 3) := by
      by_cases h1 : kd = 1
      · rw [if_pos h1] at hr; simp only [Bool.and_eq_true] at hr; exact ⟨hr.1, .inl h1⟩
      · rw [if_neg h1] at hr
        by_cases h3 : kd = 3
        · rw [if_pos h3] at hr; simp only [Bool.and_eq_true] at hr; exact ⟨hr.1.1, .inr h3⟩
        · rw [if_neg h3] at hr; cases hr
    obtain ⟨ht, hk⟩ := ht
    simp only [tnOk, decide_eq_true_eq] at ht
    have htl : ((tl.toNat : Nat) : Int) = tl := by omega
    have hnm : ((num.toNat : Nat) : Int) = num := by omega
    rcases hk with rfl | rfl
    · simp only [] at hr
      simp at hr
      obtain ⟨-, rfl⟩ := hr
      have e : putR ⟨1, tl, num, []⟩ = numB 1 1 ++ (numB tl.toNat 4 ++ (numB num.toNat 8 ++ [])) := by simp [putR]
      unfold readR
      rw [e, sn1 1 _ (by decide)]
      simp only []
      rw [if_neg (by decide), sn4 tl.toNat _ (by omega)]
      simp only []
      rw [sn8 num.toNat _ (by omega)]
      simp only []
      rw [if_neg (by decide), htl, hnm]
      rfl
    · rw [if_neg (by decide), if_pos rfl] at hr
      simp only [Bool.and_eq_true] at hr
      have hg := hr.2
      have hl := goodFrom_len (lo := -1) (by decide) (by decide) hg
      have e : putR ⟨3, tl, num, ws⟩ = numB 3 1 ++ (numB tl.toNat 4 ++ (numB num.toNat 8 ++ (numB ws.length 2 ++ (encWs ws ++ [])))) := by simp [putR]
      unfold readR
      rw [e, sn1 3 _ (by decide)]
      simp only []
      rw [if_neg (by decide), sn4 tl.toNat _ (by omega)]
      simp only []
      rw [sn8 num.toNat _ (by omega)]
      simp only []
      have hc : ((3 : Nat) : Int) = 3 := rfl
      rw [if_pos hc, sn2 ws.length _ (by omega)]
      simp only [Int.toNat_natCast]
      rw [scanWs_put ws (-1) [] hg, htl, hnm]
      rfl
theorem getR_put (r : Rc) (hr : rightR r = true) : getR (putR r) = some r := by
  unfold getR
  rw [readR_put r hr, if_neg (by simp [hr])]
end Go.Proofs.Ytbbhchmdggfncaa


/-
  Writes and records in memory.
-/
namespace Go.Proofs.Ytbbhchmdggfncaa
open Go.RowKit Go.Shelf
set_option linter.unusedSimpArgs false
set_option linter.unusedVariables false
set_option maxRecDepth 100000

theorem Try.info35 : (Try.prog.info? 35).map (fun i => (i.zero, i.size, i.bytes)) = some (some (.slice none 0 0), 1, 24) := by kernel_rfl
theorem Try.info39 : (Try.prog.info? 39).map (fun i => (i.zero, i.size, i.bytes)) = some (some (.agg #[.int .i64 0, .slice none 0 0]), 2, 32) := by kernel_rfl
theorem Try.agg39 : aggSize Try.prog 39 2 := by
  obtain ⟨i0, hi, _, hs, _⟩ := info_parts Try.info39
  exact ⟨⟨i0, hi, hs⟩, _, Try.underlying39, .inr ⟨_, rfl⟩⟩
theorem Try.info37 : (Try.prog.info? 37).map (fun i => (i.zero, i.size, i.bytes)) = some (some (.agg #[.int .i64 0, .int .i64 0, .int .i64 0, .slice none 0 0]), 4, 48) := by kernel_rfl
theorem Try.agg37 : aggSize Try.prog 37 4 := by
  obtain ⟨i0, hi, _, hs, _⟩ := info_parts Try.info37
  exact ⟨⟨i0, hi, hs⟩, _, Try.underlying37, .inr ⟨_, rfl⟩⟩

/-- A write in memory. -/
structure Wv where
  blk : Int
  s : Sl
  B : List Nat
def Wv.ent (x : Wv) : EntB := (x.blk, x.s)
def Wv.wr (x : Wv) : Wr := ⟨x.blk, x.B⟩
/-- v is a slice that holds the writes l. -/
def WsAt (w : World) (v : Value) (l : List Wv) : Prop := SrcEB w v (l.map Wv.ent) ∧ (∀ x ∈ l, Src w x.s.v x.B) ∧ l.length ≤ 9223372036854775807
theorem WsAt.nil (w : World) : WsAt w (.slice none 0 0) [] := ⟨⟨none, 0, rfl, by simp, fun h => absurd h (by simp)⟩, by simp, by simp⟩
theorem WsAt.kept {w w' : World} {v : Value} {l : List Wv} (h : WsAt w v l) (hk : Kept (fun _ => False) w w') : WsAt w' v l := by
  obtain ⟨⟨ao, cap, h1, h2, h3⟩, h4, h5⟩ := h
  refine ⟨⟨ao, cap, h1, h2, fun h0 => ?_⟩, fun x hx => (h4 x hx).kept hk, h5⟩
  obtain ⟨g, off, e, hc⟩ := h3 h0
  exact ⟨g, off, e, hk.cells hc (fun h => h)⟩
theorem WsAt.slice {w : World} {v : Value} {l : List Wv} (h : WsAt w v l) : ∃ ao cap, v = .slice ao l.length cap := by
  obtain ⟨⟨ao, cap, h1, _⟩, _⟩ := h
  exact ⟨ao, cap, by rw [h1, List.length_map]⟩
theorem WsAt.len {w : World} {ao : Option Addr} {n c : Nat} {l : List Wv} (h : WsAt w (.slice ao n c) l) : n = l.length := by
  obtain ⟨ao', cap, e⟩ := h.slice
  cases e
  rfl
theorem WsAt.get {w : World} {ao : Option Addr} {n c : Nat} {l : List Wv} (h : WsAt w (.slice ao n c) l) {k : Nat} (hk : k < l.length) :
    ∃ g off, ao = some ⟨g, off, none⟩ ∧ w.cell? ⟨g, off + k * 2, none⟩ = some (.int .i64 l[k].blk) ∧ w.cell? ⟨g, off + k * 2 + 1, none⟩ = some (.slice l[k].s.a l[k].s.n l[k].s.c) ∧ Src w l[k].s.v l[k].B ∧ l[k].s.n = l[k].B.length := by
  obtain ⟨⟨ao', cap, h1, h2, h3⟩, h4, h5⟩ := h
  cases h1
  obtain ⟨g, off, rfl, hc⟩ := h3 (by rw [List.length_map]; omega)
  have hk' : k < (l.map Wv.ent).length := by rw [List.length_map]; exact hk
  have hs := h4 l[k] (List.getElem_mem hk)
  have hn : l[k].s.n = l[k].B.length := by
    obtain ⟨bo, c, e, _⟩ := hs
    simp only [Sl.v, Value.slice.injEq] at e
    exact e.2.1
  have a := hc _ _ (encE_key (ek := ekB) (ev := evB) (l.map Wv.ent) k hk')
  have b := hc _ _ (encE_val (ek := ekB) (ev := evB) (l.map Wv.ent) k hk')
  rw [List.getElem_map] at a b
  exact ⟨g, off, rfl, a, b, hs, hn⟩
/-- A record in memory. -/
structure Rv where
  kd : Int
  tl : Int
  nm : Int
  s : Sl
  ws : List Wv
def Rv.rc (x : Rv) : Rc := ⟨x.kd, x.tl, x.nm, x.ws.map Wv.wr⟩
abbrev rAgg (k t n : Int) (s : Sl) : Value := .agg #[.int .i64 k, .int .i64 t, .int .i64 n, .slice s.a s.n s.c]
abbrev Rv.agg (x : Rv) : Value := rAgg x.kd x.tl x.nm x.s
def RcAt (w : World) (x : Rv) : Prop := WsAt w x.s.v x.ws
theorem RcAt.kept {w w' : World} {x : Rv} (h : RcAt w x) (hk : Kept (fun _ => False) w w') : RcAt w' x := WsAt.kept h hk
end Go.Proofs.Ytbbhchmdggfncaa


/-
  Writes of one's own: a slice of them that is appended to.
-/
namespace Go.Proofs.Ytbbhchmdggfncaa
open Go.RowKit Go.Shelf
set_option linter.unusedSimpArgs false
set_option linter.unusedVariables false
set_option maxRecDepth 100000

def WsOwn (w : World) (v : Value) (l : List Wv) : Prop := w.ownsRow 0 39 2 v l.length (encE ekB evB (l.map Wv.ent)) ∧ ∀ x ∈ l, Own w 0 x.s.v x.B
theorem own_apart {w : World} {v u : Value} {n m : Nat} {xs ys : List Value} {e t : TypeId} {a b : Nat} (h : w.ownsRow 0 e a v n xs) (k : w.ownsRow 0 t b u m ys) (hne : e ≠ t) : ∀ j, v.ownBlock = some j → u.ownBlock ≠ some j := by
  intro j hj hu
  rcases h.2 with ⟨rfl, _⟩ | ⟨g, cap, cur, rfl, _, hg, _⟩
  · simp [Value.ownBlock] at hj
  · simp [Value.ownBlock] at hj
    subst hj
    rcases k.2 with ⟨rfl, _⟩ | ⟨g', cap', cur', rfl, _, hg', _⟩
    · simp [Value.ownBlock] at hu
    · simp [Value.ownBlock] at hu
      subst hu
      rw [hg] at hg'
      simp at hg'
      exact hne hg'.2
theorem WsOwn.nil (w : World) : WsOwn w (.slice none 0 0) [] := ⟨World.ownsRow_nil _ _ _ _, by simp⟩
theorem WsOwn.kept {S : Nat → Prop} {w w' : World} {v : Value} {l : List Wv} (h : WsOwn w v l) (hk : Kept S w w') (hv : ∀ k, v.ownBlock = some k → ¬ S k) (hx : ∀ x ∈ l, ∀ k, x.s.v.ownBlock = some k → ¬ S k) : WsOwn w' v l :=
  ⟨ownsRow_kept h.1 hk hv, fun x hxl => (h.2 x hxl).kept hk (hx x hxl)⟩
theorem WsOwn.keptF {w w' : World} {v : Value} {l : List Wv} (h : WsOwn w v l) (hk : Kept (fun _ => False) w w') : WsOwn w' v l := h.kept hk (fun _ _ h => h) (fun _ _ _ _ h => h)
/-- A block of another type is changed. -/
theorem WsOwn.keptB {w w' : World} {v : Value} {l : List Wv} {b : Nat} {L : List Value} {t : TypeId} (h : WsOwn w v l) (hb : Blk w b L t) (h40 : t ≠ 39) (h5 : t ≠ 5) (hk : Kept (fun k => k = b) w w') : WsOwn w' v l :=
  h.kept hk (fun k hk' e => ownsRow_blk_ne h.1 hb h40 (e ▸ hk')) (fun x hx k hk' e => (h.2 x hx).blk_ne hb h5 (e ▸ hk'))
theorem WsOwn.at {w : World} {v : Value} {l : List Wv} (h : WsOwn w v l) (hl : l.length ≤ 9223372036854775807) : WsAt w v l := by
  refine ⟨?_, fun x hx => (h.2 x hx).src, hl⟩
  have h1 := h.1
  rcases ownsRow_blk h1 with ⟨rfl, h0, _⟩ | ⟨g, cap, C, rfl, hb, hnc, hcm, hC⟩
  · exact ⟨none, 0, by rw [List.length_map, h0], by rw [List.length_map]; omega, fun h => by rw [List.length_map] at h; omega⟩
  · refine ⟨_, cap, by rw [List.length_map], by rw [List.length_map]; exact hnc, fun _ => ⟨g, 0, rfl, ?_⟩⟩
    have h := hb.cells 0 (l.length * 2)
    rw [List.drop_zero, List.take_append_of_le_length (by rw [encE_length, List.length_map]; omega), List.take_of_length_le (by rw [encE_length, List.length_map]; omega)] at h
    exact h
theorem WsOwn.sl {w : World} {v : Value} {l : List Wv} (h : WsOwn w v l) : ∃ s : Sl, v = s.v := by
  obtain ⟨ao, c, e⟩ := ownsRow_slice h.1
  exact ⟨⟨ao, l.length, c⟩, e⟩
/-- One more write is appended. -/
theorem WsOwn.snoc {w : World} {v : Value} {l : List Wv} (h : WsOwn w v l) (x : Wv) (ho : Own w 0 x.s.v x.B) {g : Nat} (hg : Blk w g [.int .i64 x.blk, .slice x.s.a x.s.n x.s.c] 39) (hl : l.length ≤ 1000000) (ty : TypeId) :
    ∃ v' w', (Builtin.append_ #[35, 35] ty #[v, .slice (some ⟨g, 0, none⟩) 1 1]).run Try.prog w = .ok v' w' ∧ WsOwn w' v' (l ++ [x]) ∧ Kept (fun k => v.ownBlock = some k) w w' ∧ (v'.ownBlock = v.ownBlock ∨ v'.ownBlock = some w.heap.size) := by
  obtain ⟨i0, hi, hz, hs, hb⟩ := info_parts Try.info39
  obtain ⟨v', w', hr, h2, h3, _, h5⟩ := run_append_own_at (P := Try.prog) w 0 35 ty 39 i0 _ 2 32 Try.underlying35 hi hz hs hb rfl (by decide) v l.length _ h.1 ⟨g, 0, none⟩ 1 1 [.int .i64 x.blk, .slice x.s.a x.s.n x.s.c] rfl (fun j u hj => by rw [addr_add, hg.cell, Nat.zero_add]; exact hj) (by simp [Value.oneCell']) (by unfold maxLen; omega) (by omega) (Nat.zero_le _)
  have hk := Kept.of_grown h3
  refine ⟨v', w', hr, ⟨?_, ?_⟩, hk, h5⟩
  · have e : encE ekB evB ((l ++ [x]).map Wv.ent) = encE ekB evB (l.map Wv.ent) ++ [.int .i64 x.blk, .slice x.s.a x.s.n x.s.c] := by
      rw [List.map_append, encE_append]; rfl
    rw [e, List.length_append]
    exact h2
  · intro y hy
    rcases List.mem_append.1 hy with hy | hy
    · exact (h.2 y hy).kept hk (fun k hk' e => own_apart h.1 (h.2 y hy).1 (by decide) k e hk')
    · simp at hy
      subst hy
      exact ho.kept hk (fun k hk' e => own_apart h.1 ho.1 (by decide) k e hk')
end Go.Proofs.Ytbbhchmdggfncaa


/-
  Scans, and where their bytes lie.
-/
namespace Go.Proofs.Ytbbhchmdggfncaa
open Go.RowKit Go.Shelf
set_option linter.unusedSimpArgs false
set_option linter.unusedVariables false
set_option maxRecDepth 100000

set_option maxHeartbeats 2000000 in
theorem snum_x (w : World) (s : Nat) (v : Value) (B : List Nat) (E : Int) (h : ScanAt w s v B E) (hl : B.length ≤ 90000000) (m : Int) :
    Calls Try.prog 76 #[.pointer (some ⟨s, 0, none⟩), .int .i64 m] w fun e w' => ∃ v', e = .returned (.int .i64 (scanNum B E m).1) ∧ ScanAt w' s v' (scanNum B E m).2.1 (scanNum B E m).2.2 ∧ Kept (fun k => k = s) w w' ∧ (0 < (scanNum B E m).2.1.length → 0 < B.length ∧ ∀ k, vX v' k → vX v k) := by
  have HE := hide (err_at w s v B E h)
  by_cases hE : E = 0
  · subst hE
    have HF := hide (first_at w v B h.2 (by omega) m)
    have hc0 := h.1.cell 0
    have hc1 := h.1.cell 1
    have hf0 := h.1.frozen 0
    have hf1 := h.1.frozen 1
    simp at hc0 hc1
    have HH := hide h
    clear h
    cases hfn : firstN B m with
    | none =>
      rw [hfn] at HF
      rw [sN_none hfn]
      clear hfn
      go_enter Try.func76, Try.ntmps76
      go_wp2_with fail
      refine HE.out.mono ?_
      rintro e w1 ⟨rfl, rfl⟩
      go_wp2_with fail
      refine HF.out.mono ?_
      rintro e w1 ⟨rfl, rfl⟩
      simp only [firstV]
      go_wp2
      go_ret
      exact ⟨v, rfl, HH.out.fail.1, HH.out.fail.2, fun h => ⟨h, fun _ h => h⟩⟩
    | some n =>
      obtain ⟨h1, h8, hml, hnv, hn⟩ := firstN_some hfn
      clear hnv
      obtain ⟨q, rfl⟩ : ∃ q : Nat, m = q := ⟨m.toNat, by omega⟩
      rw [hfn] at HF
      rw [sN_some hfn, Int.toNat_natCast]
      obtain ⟨bo, c, e⟩ := HH.out.slice
      subst e
      obtain ⟨bo', c', e, hcap, _, hsrc, _⟩ := HH.out.2
      cases e
      obtain ⟨sb, so, e, _⟩ := hsrc (by omega)
      subst e
      clear hfn hsrc
      go_enter Try.func76, Try.ntmps76
      go_wp2_with fail
      refine HE.out.mono ?_
      rintro e w1 ⟨rfl, rfl⟩
      go_wp2_with fail
      refine HF.out.mono ?_
      rintro e w1 ⟨rfl, rfl⟩
      simp only [firstV]
      go_wp2_with (with_reducible refine stop_slice 22 ?_)
      refine hide ?_
      refine aw_lo25 (B := B) q rfl rfl rfl HH.out.2 (by omega) ?_
      intro so' hs'
      obtain ⟨hg1, hg2⟩ := HH.out.go hs'
      have HG1 := hide hg1
      clear hg1 hs'
      have hq1 : 0 < (B.drop q).length → 0 < B.length := fun h => by simp at h; omega
      have HQ1 := hide hq1
      clear hq1
      generalize B.length - q = q1 at *
      generalize c - q = q2 at *
      go_wp2
      go_ret
      exact ⟨_, rfl, HG1.out, hg2, fun h => ⟨HQ1.out h, fun k ⟨o, n, c, e⟩ => by simp only [Value.slice.injEq, Option.some.injEq, Addr.mk.injEq] at e; exact ⟨_, _, _, by rw [e.1.1]⟩⟩⟩
  · have HH := hide h
    rw [scanNum_err m hE]
    clear h
    go_enter Try.func76, Try.ntmps76
    go_wp2_with fail
    refine HE.out.mono ?_
    rintro e w1 ⟨rfl, rfl⟩
    go_wp2
    go_ret
    exact ⟨v, rfl, HH.out, Kept.refl _ _, fun h => ⟨h, fun _ h => h⟩⟩


/-- A scan at s; it and its bytes lie below N. -/
def Sc (N : Nat) (w : World) (s : Nat) (B : List Nat) (E : Int) : Prop := s < N ∧ N ≤ w.heap.size ∧ ∃ v, ScanAt w s v B E ∧ (0 < B.length → ∀ k, vX v k → k < N)
theorem Sc.of {w : World} {s : Nat} {v : Value} {B : List Nat} {E : Int} (h : ScanAt w s v B E) : Sc w.heap.size w s B E := by
  refine ⟨h.1.lt, Nat.le_refl _, v, h, fun h0 k hk => ?_⟩
  obtain ⟨bo, cap, rfl, h1, h2, h3, h4⟩ := h.2
  obtain ⟨sb, so, rfl, hc⟩ := h3 h0
  obtain ⟨o, n, c, e⟩ := hk
  simp only [Value.slice.injEq, Option.some.injEq, Addr.mk.injEq] at e
  rw [← e.1.1]
  exact World.block_lt_of_cell? w _ (hc 0 _ (BV_get B 0 h0))
theorem Src.keptX {S : Nat → Prop} {w w' : World} {v : Value} {B : List Nat} (h : Src w v B) (hk : Kept S w w') (hn : 0 < B.length → ∀ k, vX v k → ¬ S k) : Src w' v B := by
  obtain ⟨bo, cap, rfl, h1, h2, h3, h4⟩ := h
  exact ⟨bo, cap, rfl, h1, h2, fun h => by obtain ⟨sb, so, e, hc⟩ := h3 h; exact ⟨sb, so, e, hk.cells hc (hn h sb ⟨so, _, _, by rw [e]⟩)⟩, h4⟩
theorem Sc.kept {S : Nat → Prop} {N : Nat} {w w' : World} {s : Nat} {B : List Nat} {E : Int} (h : Sc N w s B E) (hk : Kept S w w') (hS : ∀ k, k < N → ¬ S k) : Sc N w' s B E := by
  obtain ⟨h1, h2, v, h3, h4⟩ := h
  exact ⟨h1, Nat.le_trans h2 hk.size, v, ⟨hk.blk h3.1 (hS s h1), h3.2.keptX hk (fun h0 k hx => hS k (h4 h0 k hx))⟩, h4⟩
theorem Sc.lt {N : Nat} {w : World} {s : Nat} {B : List Nat} {E : Int} (h : Sc N w s B E) : ∀ x ∈ B, x < 256 := by
  obtain ⟨_, _, v, h3, _⟩ := h
  exact h3.2.lt
theorem snum_sc (N : Nat) (w : World) (s : Nat) (B : List Nat) (E : Int) (h : Sc N w s B E) (hl : B.length ≤ 90000000) (m : Int) :
    Calls Try.prog 76 #[.pointer (some ⟨s, 0, none⟩), .int .i64 m] w fun e w' => e = .returned (.int .i64 (scanNum B E m).1) ∧ Sc N w' s (scanNum B E m).2.1 (scanNum B E m).2.2 ∧ Kept (fun k => k = s) w w' := by
  obtain ⟨h1, h2, v, h3, h4⟩ := h
  refine (snum_x w s v B E h3 hl m).mono ?_
  rintro e w' ⟨v', rfl, hs', hk, hx⟩
  exact ⟨rfl, ⟨h1, Nat.le_trans h2 hk.size, v', hs', fun h0 k hv => h4 (hx h0).1 k ((hx h0).2 k hv)⟩, hk⟩
theorem err_sc (N : Nat) (w : World) (s : Nat) (B : List Nat) (E : Int) (h : Sc N w s B E) : Calls Try.prog 78 #[.pointer (some ⟨s, 0, none⟩)] w fun e w' => e = .returned (.int .i64 E) ∧ w = w' := by
  obtain ⟨h1, h2, v, h3, h4⟩ := h
  exact err_at w s v B E h3
theorem left_sc (N : Nat) (w : World) (s : Nat) (B : List Nat) (E : Int) (h : Sc N w s B E) : Calls Try.prog 79 #[.pointer (some ⟨s, 0, none⟩)] w fun e w' => e = .returned (.int .i64 B.length) ∧ w = w' := by
  obtain ⟨h1, h2, v, h3, h4⟩ := h
  exact left_at w s v B E h3

theorem built40 {w : World} {ρ : Operand → Value} {dst : Option Tmp} {ty : TypeId} {pos : String} {aft : Array Edge} {gd : Option (Nat × Bool)} {a b : Operand} {k : Int} {sa : Option Addr} {sn sc : Nat} (ha : ρ a = .int .i64 k) (hb : ρ b = .slice sa sn sc) :
    (execOp ρ ⟨dst, .build 39 #[(0, a), (1, b)], ty, pos, aft, gd⟩).run Try.prog w = .ok (.value (.agg #[.int .i64 k, .slice sa sn sc])) w := by
  obtain ⟨i0, hi0, hz0, hs0, hb0⟩ := info_parts Try.info39
  have hpl : ∀ (fields : Array Field), Try.prog.underlying 39 = some (.struct fields) → fields.toList.mapM (fun f => (Try.prog.info? f.type).map fun i => (f.offset, i.size)) = some [(0, 1), (1, 1)] := by
    intro fields hf
    rw [Try.underlying39] at hf
    cases hf
    kernel_rfl
  exact (run_build_two (v1 := .int .i64 k) (v2 := .slice sa sn sc) (M1 := [.int .i64 k]) (M2 := [.slice sa sn sc]) hi0 hz0 Try.underlying39 (hpl _ Try.underlying39) ha hb rfl rfl rfl rfl (by simp [Value.cells]) (by simp [Value.cells])).trans (by simp [put, Value.cells])

section
variable {P : Program} {md : Region.Mode} {ops : Array Oper} {Q : Exit → Act → World → Prop} {S : World → Prop} {m fuel : Nat} {listed : Array Bool} {a : Act} {w w' : World}
theorem threeS (i j l : Nat) (hr : Region.ready md ops listed = [i, j, l]) (h : wpOp P ops Q i (fun a' w'' => (i ≠ m → S w'') ∧ wpAnyM P md ops Q S m fuel (listed.setIfInBounds i true) a' w'') a w)
    (h2 : wpOp P ops Q j (fun a' w'' => (j ≠ m → S w'') ∧ wpAnyM P md ops Q S m fuel (listed.setIfInBounds j true) a' w'') a w)
    (h3 : wpOp P ops Q l (fun a' w'' => (l ≠ m → S w'') ∧ wpAnyM P md ops Q S m fuel (listed.setIfInBounds l true) a' w'') a w) : wpAnyM P md ops Q S m (fuel + 1) listed a w := by
  refine ⟨fun h0 => absurd (hr ▸ h0) (by simp), hr ▸ ?_⟩
  intro k hk
  simp at hk
  rcases hk with rfl | rfl | rfl
  · exact h
  · exact h2
  · exact h3
end
end Go.Proofs.Ytbbhchmdggfncaa
