/-
  What TxnPlays keeps from round to round.
-/
import Derived.Test.YtclfklcboigifaaTxRwt
import Derived.Test.YtclfklcboigifaaTxFirst
namespace Go.Proofs.Ytclfklcboigifaa
open Go.RowKit Go.Shelf
set_option linter.unusedSimpArgs false
set_option linter.unusedVariables false
set_option maxRecDepth 100000

/-- A key above all others comes last. -/
theorem putK_last {ν : Type} {l : List (Int × ν)} {k : Int} (h : ∀ x ∈ l, x.1 < k) (v : ν) : putK ltI l k v = l ++ [(k, v)] := by
  have hp : posK ltI l k = l.length := (posK_eq (Nat.le_refl _) (fun j hj _ => by simp [ltI, h l[j] (List.getElem_mem hj)]) (fun h => absurd h (Nat.lt_irrefl _))).symm
  have hh : hasK ltI l k = false := hasK_ge (by rw [hp]; omega)
  unfold putK insK
  rw [hh, hp]
  simp
/-- The rows that the book and the document's book have, and how far they are. -/
structure PR (n la : Int) (L : Txs) (E : List EntX) (k : Nat) : Prop where
  rows : rowsX E = L
  srt : Sorted ltI L
  top : ∀ x ∈ L, x.1 ≤ la
  la0 : 0 ≤ la ∧ la ≤ k
  ok : okTx k L
  len : L.length ≤ 8
theorem mapK_srt {ν μ : Type} {f : ν → μ} {l : List (Int × ν)} : Sorted ltI (mapK f l) ↔ Sorted ltI l := by
  unfold Sorted mapK
  rw [List.pairwise_map]
section
variable {n la : Int} {L : Txs} {E : List EntX} {k : Nat}
theorem PR.zero (n : Int) : PR n 0 [] [] 0 := ⟨rfl, List.Pairwise.nil, by simp, by omega, okTx.nil 0, by simp⟩
theorem PR.next (h : PR n la L E k) : PR n la L E (k + 1) := { h with la0 := ⟨h.la0.1, by have := h.la0.2; omega⟩, ok := h.ok.mono (Nat.le_succ k) }
theorem PR.eSrt (h : PR n la L E k) : Sorted ltI (entsX E) := by
  have := h.srt
  rw [← h.rows] at this
  unfold rowsX at this
  unfold entsX
  rw [mapK_srt] at this ⊢
  exact this
theorem PR.eLen (h : PR n la L E k) : E.length = L.length := by rw [← h.rows, rowsX_len]
theorem PR.begin (h : PR n la L E k) (hl : L.length < 8) : PR n (la + 1) (putK ltI L (la + 1) []) (E ++ [(la + 1, ((⟨none, 0, 0⟩ : Sl), ([] : List Wv)))]) (k + 1) := by
  have hp : putK ltI L (la + 1) [] = L ++ [(la + 1, [])] := putK_last (fun x hx => by have := h.top x hx; omega) []
  refine ⟨?_, h.srt.put strictI _ _, ?_, ⟨by have := h.la0.1; omega, by have := h.la0.2; omega⟩, (h.ok.mono (Nat.le_succ k)).put _ (Nat.zero_le _) (by simp) trivial, ?_⟩
  · rw [hp, ← h.rows]
    unfold rowsX mapK
    rw [List.map_append]
    rfl
  · intro x hx
    rcases mem_putK hx with e | e
    · subst e; exact Int.le_refl _
    · have := h.top x e; omega
  · have := (putK_length ltI L (la + 1) []).1; omega
theorem PR.del (h : PR n la L E k) (t : Int) : PR n la (delK ltI L t) (delK ltI E t) (k + 1) := by
  refine ⟨?_, h.srt.del t, fun x hx => h.top x (mem_delK hx), ⟨h.la0.1, by have := h.la0.2; omega⟩, (h.ok.mono (Nat.le_succ k)).del t, Nat.le_trans (delK_length ltI L t) h.len⟩
  rw [← h.rows]
  exact (delK_map _ _ _).symm
theorem PR.clear (h : PR n la L E k) : PR n la [] [] (k + 1) := ⟨rfl, List.Pairwise.nil, by simp, ⟨h.la0.1, by have := h.la0.2; omega⟩, okTx.nil _, by simp⟩
theorem PR.write (h : PR n la L E k) {t kk : Int} {B : List Nat} (hh : hasK ltI L t = true) (hB : B.length = 64) {s : Sl} {ws : List Wv} (hw : ws.map Wv.wr = mergeW ((curX E t).2.map Wv.wr ++ [⟨kk, B⟩])) :
    PR n la (txW L t kk B) (putK ltI E t (s, ws)) (k + 1) := by
  have hrow : rowsX (putK ltI E t (s, ws)) = txW L t kk B := by
    have e := putK_map (lt := ltI) (fun x : Sl × List Wv => x.2.map Wv.wr) E t (s, ws)
    unfold txW
    rw [← h.rows, curX_rows]
    unfold rowsX
    rw [← e]
    show putK ltI _ t (ws.map Wv.wr) = _
    rw [hw]
  refine ⟨hrow, h.srt.put strictI _ _, fun x hx => ?_, ⟨h.la0.1, by have := h.la0.2; omega⟩, h.ok.write t kk hB, ?_⟩
  · unfold txW at hx
    rcases mem_putK hx with e | e
    · subst e
      obtain ⟨u, hu⟩ := (hasK_iff strictI h.srt).1 hh
      have h3 := h.top (t, u) hu
      exact h3
    · exact h.top x e
  · have hlen : (putK ltI L t (mergeW (valK ltI [] L t ++ [⟨kk, B⟩]))).length = L.length := by
      unfold putK
      rw [if_pos hh, List.length_set]
    unfold txW
    rw [hlen]
    exact h.len
end

/-- Begin, End, Write of the document's book, with what its transactions have. -/
theorem rbegin_at (w : World) (n la : Int) (v : Value) (E : List EntX) (Y : NSet) (h : RfT Y w v E) (hY : ∀ k, Y k → k < w.heap.size) (hl : E.length < 8) (hla : 0 ≤ la ∧ la ≤ 1000000) :
    Calls Try.prog 14 #[.agg #[.int .i64 n, .int .i64 la, v]] w fun e w' => ∃ v', e = .returned (.tuple #[.agg #[.int .i64 n, .int .i64 (la + 1), v'], .int .i64 (la + 1), .int .i64 0]) ∧ RfT Y w' v' (E ++ [(la + 1, ((⟨none, 0, 0⟩ : Sl), ([] : List Wv)))]) ∧ Kept (fun _ => False) w w' := by
  refine (rbegin_row w n la v (entsX E) h.now.1 (by rw [entsX_len]; exact hl) hla (la + 1) rfl).mono ?_
  rintro e w' ⟨v', rfl, hr, hn, hk⟩
  refine ⟨v', rfl, RfT.of_row (N := w.heap.size) (t := 57) ?_ hn hY ?_, hk⟩
  · have e : entsX (E ++ [(la + 1, ((⟨none, 0, 0⟩ : Sl), ([] : List Wv)))]) = entsX E ++ [(la + 1, (⟨none, 0, 0⟩ : Sl))] := by unfold entsX mapK; rw [List.map_append]; rfl
    rw [e]
    exact hr
  · intro w2 hk2 x hx
    have h2 := h w2 ((hk.mono (T := Y) (fun _ _ h => h.elim)).trans hk2 (fun _ _ h => h))
    rcases List.mem_append.1 hx with hx | hx
    · exact h2.2 x hx
    · rw [List.mem_singleton] at hx; subst hx; exact WsAt.nil w2
theorem rend_at (w : World) (n la : Int) (v : Value) (E : List EntX) (Y : NSet) (h : RfT Y w v E) (hY : ∀ k, Y k → k < w.heap.size) (hs : Sorted ltI (entsX E)) (hl : E.length ≤ 1000) (t : Int) :
    Calls Try.prog 20 #[.agg #[.int .i64 n, .int .i64 la, v], .int .i64 t] w fun e w' => ∃ v', e = .returned (.tuple #[.agg #[.int .i64 n, .int .i64 la, v'], .int .i64 (if hasK ltI (entsX E) t then 0 else 40)]) ∧ RfT Y w' v' (delK ltI E t) ∧ Kept (fun _ => False) w w' := by
  cases hh : hasK ltI (entsX E) t with
  | false =>
    refine (rend_no w n la v (entsX E) h.now.1 hs (by rw [entsX_len]; exact hl) t hh).mono ?_
    rintro e w' ⟨rfl, hk⟩
    have hd : delK ltI E t = E := by
      unfold entsX at hh
      rw [hasK_map] at hh
      unfold delK
      rw [hh]
      rfl
    refine ⟨v, rfl, ?_, hk⟩
    rw [hd]
    exact h.same hk
  | true =>
    refine (rend_row w n la v (entsX E) h.now.1 hs (by rw [entsX_len]; exact hl) t hh).mono ?_
    rintro e w' ⟨v', rfl, hr, hn, hk⟩
    refine ⟨v', rfl, RfT.of_row (N := w.heap.size) (t := 57) ?_ hn hY ?_, hk⟩
    · have e : delK ltI (entsX E) t = entsX (delK ltI E t) := delK_map _ _ _
      rw [← e]
      exact hr
    · intro w2 hk2 x hx
      exact (h w2 ((hk.mono (T := Y) (fun _ _ h => h.elim)).trans hk2 (fun _ _ h => h))).2 x (mem_delK hx)
theorem rwrite_at (w : World) (n la : Int) (v : Value) (E : List EntX) (Y : NSet) (h : RfT Y w v E) (hY : ∀ k, Y k → k < w.heap.size) (hs : Sorted ltI (entsX E)) (hl : E.length ≤ 1000) (hc : ∀ t, (curX E t).2.length ≤ 1000) (t k : Int) (d : Sl) (B : List Nat) (hd : ∀ w2, Kept Y w w2 → Src w2 d.v B) :
    Calls Try.prog 15 #[.agg #[.int .i64 n, .int .i64 la, v], .int .i64 t, .int .i64 k, .slice d.a d.n d.c] w fun e w' => ∃ (v' : Value) (E' : List EntX), e = .returned (.tuple #[.agg #[.int .i64 n, .int .i64 la, v'], .int .i64 (txWE n (rowsX E) t k B.length)]) ∧ RfT Y w' v' E' ∧ Kept (fun _ => False) w w' ∧
      ((txWE n (rowsX E) t k B.length ≠ 0 ∧ E' = E) ∨ (txWE n (rowsX E) t k B.length = 0 ∧ hasK ltI (rowsX E) t = true ∧ B.length = 64 ∧ ∃ s ws, E' = putK ltI E t (s, ws) ∧ ws.map Wv.wr = mergeW ((curX E t).2.map Wv.wr ++ [⟨k, B⟩]))) := by
  obtain ⟨da, dn, dc⟩ := d
  have hdn : dn = B.length := by
    obtain ⟨bo, c', e, _⟩ := hd w (Kept.refl _ _)
    simp only [Sl.v, Value.slice.injEq] at e
    omega
  obtain ⟨r, hr⟩ : ∃ r, txWE n (rowsX E) t k B.length = r := ⟨_, rfl⟩
  have hr2 : (if hasK ltI (entsX E) t = false then 40 else if k < 0 ∨ n ≤ k then 41 else if dn ≠ 64 then 42 else (0 : Int)) = r := by
    rw [← hr, hdn, ← ents_rows_has]
    unfold txWE txErr
    cases hasK ltI (rowsX E) t with
    | false => simp
    | true =>
      by_cases h1 : k < 0 ∨ n ≤ k
      · simp [h1]
      · simp [h1]
  rw [hr]
  by_cases hr0 : r = 0
  · subst hr0
    have hh : hasK ltI (entsX E) t = true ∧ ¬ k < 0 ∧ ¬ n ≤ k ∧ dn = 64 := by
      cases hh : hasK ltI (entsX E) t with
      | false => rw [hh] at hr2; simp at hr2
      | true =>
        rw [hh] at hr2
        by_cases h1 : k < 0 ∨ n ≤ k
        · simp [h1] at hr2
        · by_cases h2 : dn = 64
          · exact ⟨rfl, fun e => h1 (.inl e), fun e => h1 (.inr e), h2⟩
          · simp [h1, h2] at hr2
    obtain ⟨hh, h1, h2, h64⟩ := hh
    subst h64
    have hcur := h.now.cur t
    refine (rwrite_row w n la v (entsX E) h.now.1 hs (by rw [entsX_len]; exact hl) t k hh h1 h2 (curX E t).1 (curX E t).2 (curX_sl E t) hcur (hc t) da dc B (hd w (Kept.refl _ _))).mono ?_
    rintro e w' ⟨v', s, ws, rfl, hrow, hn, hws, hsn, hwr, hmem, hk⟩
    refine ⟨v', putK ltI E t (s, ws), rfl, RfT.of_row (N := w.heap.size) (t := 57) ?_ hn hY ?_, hk, .inr ⟨rfl, by rw [ents_rows_has]; exact hh, hdn.symm, s, ws, rfl, hwr⟩⟩
    · have e : putK ltI (entsX E) t s = entsX (putK ltI E t (s, ws)) := putK_map (lt := ltI) (fun x : Sl × List Wv => x.1) E t (s, ws)
      rw [← e]
      exact hrow
    · intro w2 hk2 x hx
      have hk02 : Kept Y w w2 := (hk.mono (T := Y) (fun _ _ h => h.elim)).trans hk2 (fun _ _ h => h)
      have h2 := h w2 hk02
      rcases mem_putK hx with rfl | hx
      · refine (hws.kept hk2 (fun j hj hy => by have := hsn j hj; have := hY j hy; omega)).at (fun y hy => ?_) ?_
        · rcases hmem y hy with hy | hy
          · exact (h2.cur t).2.1 y hy
          · subst hy; exact hd w2 hk02
        · have h3 : ws.length ≤ (curX E t).2.length + 1 := by
            have h4 := mergeW_le ((curX E t).2.map Wv.wr ++ [⟨k, B⟩])
            rw [← hwr, List.length_map, List.length_append, List.length_map, List.length_singleton] at h4
            exact h4
          have := hc t
          omega
      · exact h2.2 x hx
  · refine (rwrite_no w n la v (entsX E) h.now.1 hs (by rw [entsX_len]; exact hl) t k da dn dc r hr2 hr0).mono ?_
    rintro e w' ⟨rfl, hk⟩
    exact ⟨v, E, rfl, h.same hk, hk, .inl ⟨hr0, rfl⟩⟩

/-- The two books in the law's hands. -/
structure PS (W wr : World) (b bx : Nat) (n la : Int) (L : Txs) (X : NSet) (lr : Int) (v : Value) (E : List EntX) : Prop where
  tw : Tw W wr b n la L X
  blk : Blk wr bx [.int .i64 n, .int .i64 lr, v] 30
  rf : RfT (fun k => X k ∨ k = bx) wr v E
  nx : ¬ X bx
  ge : W.heap.size ≤ bx
section
variable {W wr w w' : World} {b bx : Nat} {n la lr la' lr' : Int} {L L' : Txs} {X : NSet} {v v' : Value} {E E' : List EntX}
theorem PS.lt (h : PS W wr b bx n la L X lr v E) : ∀ k, (X k ∨ k = bx) → k < wr.heap.size := fun k hk => hk.elim (h.tw.lt k) (fun e => e ▸ h.blk.lt)
theorem PS.same (h : PS W wr b bx n la L X lr v E) (hk : Kept (fun _ => False) wr w) : PS W w b bx n la L X lr v E :=
  { h with tw := h.tw.same hk, blk := hk.blk h.blk (fun h => h), rf := h.rf.same hk }
theorem PS.prog (h : PS W wr b bx n la L X lr v E) (hs : BStep wr w b n la' L' X) : ∃ X', PS W w b bx n la' L' X' lr v E ∧ Kept X wr w := by
  obtain ⟨X', ht, hk, hx⟩ := h.tw.step hs
  refine ⟨X', { tw := ht, blk := hk.blk h.blk h.nx, rf := h.rf.step (hk.mono (fun _ _ h => .inl h)) (fun k hk' => ?_), nx := fun e => ?_, ge := h.ge }, hk⟩
  · rcases hk' with e | e
    · exact (hx k e).imp .inl id
    · exact .inl (.inr e)
  · rcases hx bx e with e | e
    · exact h.nx e
    · have := h.blk.lt; omega
/-- The document's book is stored. -/
theorem PS.store (h : PS W wr b bx n la L X lr v E) (hr : RfT (fun k => X k ∨ k = bx) wr v' E') (hb : Blk w bx [.int .i64 n, .int .i64 lr', v'] 30) (hk : Kept (fun k => k = bx) wr w) : PS W w b bx n la L X lr' v' E' :=
  { tw := h.tw.keptS hk (fun k hx e => h.nx (e ▸ hx)) (fun k e => e ▸ h.ge), blk := hb, rf := fun w2 hk2 => hr w2 ((hk.mono (T := fun k => X k ∨ k = bx) (fun _ _ h => .inr h)).trans hk2 (fun _ _ h => h)), nx := h.nx, ge := h.ge }
end
theorem cur_len {n la : Int} {L : Txs} {E : List EntX} {k : Nat} (h : PR n la L E k) (hk : k ≤ 1000) (t : Int) : (curX E t).2.length ≤ 1000 := by
  have := (h.ok.val t).1
  rw [← h.rows, curX_rows, List.length_map] at this
  omega
theorem sames {a b : List Wv} (h : a.map Wv.wr = b.map Wv.wr) : sameWs a b = true := (sameWs_iff a b).2 h
end Go.Proofs.Ytclfklcboigifaa
