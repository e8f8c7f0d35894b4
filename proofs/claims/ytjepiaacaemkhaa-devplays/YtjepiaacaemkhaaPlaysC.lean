/-
  A device and the reference, side by side.
-/
import Derived.Test.YtjepiaacaemkhaaPlaysB
namespace Go.Proofs.Ytjepiaacaemkhaa
open Go.RowKit Go.Shelf
set_option linter.unusedSimpArgs false
set_option linter.unusedVariables false

/-- The block in which the reference's waiting sectors lie. -/
def rowG (rv : Value) (ws : List (Nat × List Value)) (G : List (Nat × List Value × TypeId)) : Prop :=
  (rv = .slice none 0 0 ∧ ws = [] ∧ G = []) ∨ ∃ g cap cur, rv = .slice (some ⟨g, 0, none⟩) ws.length cap ∧ G = [(g, cur, 74)] ∧ ws.length ≤ cap ∧ cap ≤ maxLen ∧ cur.length = cap * 2 ∧ cur.take (ws.length * 2) = flatR ws

def Pl (w0 w : World) (d xb n : Nat) (s s' : DS) (rv : Value) (E : List (Nat × List Value × TypeId)) : Prop := w0.heap.size ≤ xb ∧ (∀ x ∈ E, x.2.2 ≠ 40) ∧ ∃ G, Dv w0 w d n s ((xb, refL s' rv, 40) :: (G ++ E)) ∧ rowG rv s'.ws G

theorem rowG.own {w : World} {rv : Value} {ws : List (Nat × List Value)} {G : List (Nat × List Value × TypeId)} (h : rowG rv ws G) (hb : ∀ x ∈ G, Blk w x.1 x.2.1 x.2.2) : w.ownsRow 0 74 2 rv ws.length (flatR ws) := by
  rcases h with ⟨rfl, rfl, rfl⟩ | ⟨g, cap, cur, rfl, rfl, h1, h2, h3, h4⟩
  · exact World.ownsRow_nil _ _ _ _
  · have hg := hb (g, cur, 74) (by simp)
    refine ⟨by rw [flatR_length], .inr ⟨g, cap, cur.toArray, rfl, Nat.zero_le _, hg, h1, h2, by simpa using h3, by simpa using h4⟩⟩

theorem rowG.of {w : World} {base : Nat} {rv : Value} {ws : List (Nat × List Value)} (h : w.ownsRow base 74 2 rv ws.length (flatR ws)) : ∃ G, rowG rv ws G ∧ ∀ x ∈ G, Blk w x.1 x.2.1 x.2.2 ∧ base ≤ x.1 := by
  rcases h.2 with ⟨h0, h1⟩ | ⟨g, cap, cur, h0, hb, hg, h1, h2, h3, h4⟩
  · exact ⟨[], .inl ⟨h0, List.eq_nil_of_length_eq_zero h1, rfl⟩, by simp⟩
  · refine ⟨[(g, cur.toList, 74)], .inr ⟨g, cap, cur.toList, h0, rfl, h1, h2, by simpa using h3, h4⟩, ?_⟩
    intro x hx
    simp at hx
    subst hx
    exact ⟨by unfold Blk; simpa using hg, hb⟩

section
variable {w0 w w' : World} {d xb n : Nat} {s s' : DS} {rv : Value} {E : List (Nat × List Value × TypeId)}
theorem Pl.blk (h : Pl w0 w d xb n s s' rv E) : Blk w xb (refL s' rv) 40 := by
  obtain ⟨_, _, G, hd, _⟩ := h
  exact hd.blk (xb, refL s' rv, 40) (by simp)
theorem Pl.ex (h : Pl w0 w d xb n s s' rv E) {x : Nat × List Value × TypeId} (hx : x ∈ E) : Blk w x.1 x.2.1 x.2.2 := by
  obtain ⟨_, _, G, hd, _⟩ := h
  exact hd.blk x (by simp [hx])
theorem Pl.own (h : Pl w0 w d xb n s s' rv E) : w.ownsRow 0 74 2 rv s'.ws.length (flatR s'.ws) := by
  obtain ⟨_, _, G, hd, hr⟩ := h
  exact hr.own (fun x hx => hd.blk x (by simp [hx]))
theorem Pl.slice (h : Pl w0 w d xb n s s' rv E) : ∃ ro rc, rv = .slice ro s'.ws.length rc := by
  rcases h.own.2 with ⟨rfl, h0⟩ | ⟨g, cap, cur, rfl, _⟩
  · exact ⟨none, 0, by rw [h0]⟩
  · exact ⟨_, _, rfl⟩
theorem Pl.kept (h : Pl w0 w d xb n s s' rv E) : Kept (fun _ => False) w0 w := by
  obtain ⟨_, _, G, hd, _⟩ := h
  exact hd.kept
theorem Pl.facts (h : Pl w0 w d xb n s s' rv E) : 1 ≤ n ∧ n ≤ 4096 ∧ s.st.length = 64 * n ∧ (∀ v ∈ s.st, isByte v) ∧ (∀ p ∈ s.ws, okWait n p) ∧ -1 ≤ s.left ∧ s.left ≤ 9223372036854775807 := by
  obtain ⟨_, _, G, hd, _⟩ := h
  exact hd.facts
theorem Pl.same (h : Pl w0 w d xb n s s' rv E) (hk : Kept (fun _ => False) w w') : Pl w0 w' d xb n s s' rv E := by
  obtain ⟨hx, he, G, hd, hr⟩ := h
  exact ⟨hx, he, G, hd.same hk, hr⟩
theorem Pl.more (h : Pl w0 w d xb n s s' rv E) (hk : Kept (fun _ => False) w w') (g : Nat) (L : List Value) (t : TypeId) (hb : Blk w' g L t) (hg : w.heap.size ≤ g) (ht : t ≠ 40) : Pl w0 w' d xb n s s' rv ((g, L, t) :: E) := by
  obtain ⟨hx, he, G, hd, hr⟩ := h
  refine ⟨hx, ?_, G, (hd.more hk g L t hb hg).sub (by intro x hx; simp at hx ⊢; rcases hx with h | h | h | h <;> simp [h]), hr⟩
  intro x hx
  rcases List.mem_cons.1 hx with rfl | hx
  · exact ht
  · exact he x hx
theorem Pl.bare (h : Pl w0 w d xb n s s' rv E) : Pl w0 w d xb n s s' rv [] := by
  obtain ⟨hx, he, G, hd, hr⟩ := h
  exact ⟨hx, by simp, G, hd.sub (by intro x hx; simp at hx ⊢; rcases hx with h | h <;> simp [h]), hr⟩
theorem Pl.dev {s2 : DS} {v : Value} {f : FuncId} {args : Array Value} (h : Pl w0 w d xb n s s' rv E)
    (hc : ∀ G, Dv w0 w d n s G → Calls Try.prog f args w fun e w' => e = .returned v ∧ Dv w0 w' d n s2 G) : Calls Try.prog f args w fun e w' => e = .returned v ∧ Pl w0 w' d xb n s2 s' rv E := by
  obtain ⟨hx, he, G, hd, hr⟩ := h
  refine (hc _ hd).mono ?_
  rintro e w' ⟨rfl, h2⟩
  exact ⟨rfl, hx, he, G, h2, hr⟩
theorem Pl.ask {v : Value} {f : FuncId} {args : Array Value} (h : Pl w0 w d xb n s s' rv E)
    (hc : ∀ G, Dv w0 w d n s G → Calls Try.prog f args w fun e w' => e = .returned v ∧ w = w') : Calls Try.prog f args w fun e w' => e = .returned v ∧ w = w' := by
  obtain ⟨hx, he, G, hd, hr⟩ := h
  exact hc _ hd
end

/-- The reference's device is laid anew. -/
theorem Dv.lay {w0 w w' : World} {b n : Nat} {s : DS} {G : List (Nat × List Value × TypeId)} {xb : Nat} {L M : List Value} (h : Dv w0 w b n s ((xb, L, 40) :: G)) (hx : w0.heap.size ≤ xb) (hG : ∀ x ∈ G, x.2.2 ≠ 40) (hk : Kept (fun k => k = xb) w w') (hM : Blk w' xb M 40) : Dv w0 w' b n s ((xb, M, 40) :: G) := by
  obtain ⟨F, hd, hF, hFG⟩ := h.dev
  have hxF : ¬ F xb := hFG (xb, L, 40) (by simp)
  refine ⟨⟨F, hd.kept hk (fun k hf e => by subst e; exact hxF hf), hF, ?_⟩, h.kept.trans hk (fun i hi e => by omega), ?_⟩
  · intro x hx'
    rcases List.mem_cons.1 hx' with rfl | hx'
    · exact hxF
    · exact hFG x (by simp [hx'])
  · intro x hx'
    rcases List.mem_cons.1 hx' with rfl | hx'
    · exact hM
    · have hb := h.blk x (by simp [hx'])
      refine hk.blk hb (fun e => ?_)
      have hb2 : Blk w xb L 40 := h.blk (xb, L, 40) (by simp)
      rw [e] at hb
      exact absurd rfl (hb.ne hb2 (hG x hx'))

theorem rowG.types {rv : Value} {ws : List (Nat × List Value)} {G : List (Nat × List Value × TypeId)} (h : rowG rv ws G) : ∀ x ∈ G, x.2.2 ≠ 40 := by
  intro x hx
  rcases h with ⟨_, _, rfl⟩ | ⟨g, cap, cur, _, rfl, _⟩
  · simp at hx
  · simp at hx; subst hx; show (74 : Nat) ≠ 40; decide

theorem Pl.ref {w0 w w1 w2 : World} {d xb n : Nat} {s s1 s2 : DS} {rv rv' : Value} {E : List (Nat × List Value × TypeId)} (h : Pl w0 w d xb n s s1 rv E) (hk1 : Kept (fun _ => False) w w1) (hr : rowStep w w1 rv s1.ws rv' s2.ws) (hk2 : Kept (fun k => k = xb) w1 w2) (hb : Blk w2 xb (refL s2 rv') 40) : Pl w0 w2 d xb n s s2 rv' E := by
  obtain ⟨hx, he, G, hd, hg⟩ := h
  have hty : ∀ {rv : Value} {ws : List (Nat × List Value)} {G : List (Nat × List Value × TypeId)}, rowG rv ws G → ∀ x ∈ G ++ E, x.2.2 ≠ 40 := by
    intro rv ws G h x hx
    rcases List.mem_append.1 hx with hx | hx
    · exact h.types x hx
    · exact he x hx
  refine ⟨hx, he, ?_⟩
  rcases hr with ⟨rfl, hws⟩ | hown
  · refine ⟨G, (hd.same hk1).lay hx (hty hg) hk2 hb, ?_⟩
    rw [hws]
    exact hg
  · obtain ⟨G', hg', hb'⟩ := rowG.of hown
    have hd1 : Dv w0 w1 d n s ((xb, refL s1 rv, 40) :: (G' ++ E)) := by
      have hd0 := hd.sub (G' := (xb, refL s1 rv, 40) :: E) (by intro x hx; simp at hx ⊢; rcases hx with h | h <;> simp [h])
      rcases hg' with ⟨_, _, rfl⟩ | ⟨g, cap, cur, _, rfl, _⟩
      · exact hd0.same hk1
      · have hb1 := hb' (g, cur, 74) (by simp)
        exact (hd0.more hk1 g cur 74 hb1.1 hb1.2).sub (by intro x hx; simp at hx ⊢; rcases hx with h | h | h <;> simp [h])
    exact ⟨G', hd1.lay hx (hty hg') hk2 hb, hg'⟩

theorem Pl.left {w0 w : World} {d xb n : Nat} {s : DS} {rv : Value} {E : List (Nat × List Value × TypeId)} (h : Pl w0 w d xb n s s rv E) (m : Int) : Pl w0 (w.setCell ⟨xb, 3, none⟩ (.int .i64 m)) d xb n s { s with left := m } rv E :=
  h.ref (Kept.refl _ _) (.inl ⟨rfl, rfl⟩) (Kept.setCell (S := fun k => k = xb) w ⟨xb, 3, none⟩ _ rfl) (h.blk.setCell 3 _)

theorem writeR_le (s : DS) (n : Nat) (a : Int) (B : List Value) (h : B.length ≤ 2000) : (s.writeR n a B).1.calls ≤ s.calls + 1 ∧ (s.writeR n a B).1.ws.length ≤ s.ws.length + 32 := by
  unfold DS.writeR
  have hsp : s.spent.calls ≤ s.calls + 1 := by unfold DS.spent; split <;> simp
  split
  · exact ⟨by simp, by simp⟩
  split
  · exact ⟨by simp, by simp⟩
  split
  · exact ⟨by simp, by simp⟩
  split
  · exact ⟨hsp, by simp [s.spent_ws.1]⟩
  · refine ⟨hsp, ?_⟩
    simp [DS.written, secs]
    omega
theorem flushed_le (s : DS) : s.flushed.calls ≤ s.calls + 1 ∧ s.flushed.ws.length ≤ s.ws.length := by
  unfold DS.flushed
  have hsp : s.spent.calls ≤ s.calls + 1 := by unfold DS.spent; split <;> simp
  split
  · exact ⟨by simp, by simp⟩
  split
  · exact ⟨hsp, by simp [s.spent_ws.1]⟩
  · exact ⟨hsp, by simp⟩
theorem turnR_le (s : DS) (n : Nat) (a m : Int) : (s.turnR n a m).1.calls = s.calls ∧ (s.turnR n a m).1.ws.length = s.ws.length := by
  unfold DS.turnR
  split
  · exact ⟨rfl, rfl⟩
  · exact ⟨rfl, rfl⟩

section
variable {P : Program} {md : Region.Mode} {ops : Array Oper} {Q : Exit → Act → World → Prop} {S : World → Prop} {fuel : Nat} {listed : Array Bool} {a : Act} {w w' : World}
theorem tkD (i t : Nat) {oi : Oper} {v : Value} (hi : ops[i]? = some oi) (hd : oi.dst = some t) (hs : Region.noSelect ops = true) (hf : Region.free md ops listed i = true) (hr : (Region.ready md ops listed).contains i = true)
    (hw : Region.wanted oi (yielded ops a.tmps) = true) (hQ : ∀ c a w, Q (.panic c) (a.put oi.dst v) w → Q (.panic c) a w) (hS : S w) (hrun : ∀ w, S w → (execOp a.eval oi).run P w = .ok (.value v) w)
    (h : wpAnyH P md ops Q S fuel (listed.setIfInBounds i true) (a.put (some t) v) w) : wpAnyH P md ops Q S (fuel + 1) listed a w := by
  rw [← hd] at h
  exact tk i hi hs hf hr hw hQ hS hrun h
theorem dnD (i t : Nat) {oi : Oper} {v : Value} (hi : ops[i]? = some oi) (hd : oi.dst = some t) (hr : Region.ready md ops listed = [i]) (hw : Region.wanted oi (yielded ops a.tmps) = true) (hrun : (execOp a.eval oi).run P w = .ok (.value v) w') (hS : S w')
    (h : wpAnyH P md ops Q S fuel (listed.setIfInBounds i true) (a.put (some t) v) w') : wpAnyH P md ops Q S (fuel + 1) listed a w := by
  rw [← hd] at h
  exact dn i hi hr hw hrun hS h
theorem clD (i t : Nat) {oi : Oper} {v : Value} {f : FuncId} {args : Array Value} (hi : ops[i]? = some oi) (hd : oi.dst = some t) (hr : Region.ready md ops listed = [i]) (hw : Region.wanted oi (yielded ops a.tmps) = true) (hrun : (execOp a.eval oi).run P w = .ok (.enter f args) w)
    (hc : Calls P f args w fun e w' => e = .returned v ∧ w = w') (hS : S w) (h : wpAnyH P md ops Q S fuel (listed.setIfInBounds i true) (a.put (some t) v) w) : wpAnyH P md ops Q S (fuel + 1) listed a w := by
  rw [← hd] at h
  exact cl i hi hr hw hrun hc hS h
theorem clWD (i t : Nat) {oi : Oper} {f : FuncId} {args : Array Value} {R : Ending → World → Prop} (hi : ops[i]? = some oi) (hd : oi.dst = some t) (hr : Region.ready md ops listed = [i]) (hw : Region.wanted oi (yielded ops a.tmps) = true) (hrun : (execOp a.eval oi).run P w = .ok (.enter f args) w)
    (hc : Calls P f args w R) (h : ∀ e w', R e w' → ∃ v, e = .returned v ∧ S w' ∧ wpAnyH P md ops Q S fuel (listed.setIfInBounds i true) (a.put (some t) v) w') : wpAnyH P md ops Q S (fuel + 1) listed a w := by
  rw [← hd] at h
  exact clW i hi hr hw hrun hc h
end

theorem put_lit (l : List Value) (ds : List Deferred) (t : Nat) (v : Value) : Act.put ⟨l.toArray, ds⟩ (some t) v = ⟨(l.set t v).toArray, ds⟩ := by simp [Act.put]
theorem hold_frame {p : Act → Prop} {a0 : Act} (h : ∀ a, Hid (a = a0) → p a) : p a0 := h a0 (hide rfl)

section
variable {ρ : Operand → Value} {w : World} {dst : Option Tmp} {ty : TypeId} {pos : String} {aft : Array Edge} {gd : Option (Nat × Bool)}
theorem r_fld40 {x : Operand} {b i : Nat} (hi : i < 5) (hx : ρ x = .pointer (some ⟨b, 0, none⟩)) : (execOp ρ ⟨dst, .fieldAddr 40 x i, ty, pos, aft, gd⟩).run Try.prog w = .ok (.value (.pointer (some ⟨b, i, none⟩))) w := by
  rcases i with _ | _ | _ | _ | _ | i
  · go_simp
  · go_simp
  · go_simp
  · go_simp
  · go_simp
  · omega
theorem r_ld9 {x : Operand} {b i : Nat} {v : Value} (hx : ρ x = .pointer (some ⟨b, i, none⟩)) (hc : w.cell? ⟨b, i, none⟩ = some v) : (execOp ρ ⟨dst, .load 9 x, ty, pos, aft, gd⟩).run Try.prog w = .ok (.value v) w := by
  go_simp
theorem r_ld38 {x : Operand} {b i : Nat} {v : Value} (hx : ρ x = .pointer (some ⟨b, i, none⟩)) (hc : w.cell? ⟨b, i, none⟩ = some v) : (execOp ρ ⟨dst, .load 38 x, ty, pos, aft, gd⟩).run Try.prog w = .ok (.value v) w := by
  go_simp
theorem r_ld3 {x : Operand} {b i : Nat} {v : Value} (hx : ρ x = .pointer (some ⟨b, i, none⟩)) (hc : w.cell? ⟨b, i, none⟩ = some v) : (execOp ρ ⟨dst, .load 3 x, ty, pos, aft, gd⟩).run Try.prog w = .ok (.value v) w := by
  go_simp
theorem r_ld4 {x : Operand} {b i : Nat} {v : Value} (hx : ρ x = .pointer (some ⟨b, i, none⟩)) (hc : w.cell? ⟨b, i, none⟩ = some v) : (execOp ρ ⟨dst, .load 4 x, ty, pos, aft, gd⟩).run Try.prog w = .ok (.value v) w := by
  go_simp
theorem r_neq9 {x y : Operand} {s : ByteArray} (hx : ρ x = .string s) (hy : ρ y = .string s) : (execOp ρ ⟨dst, .binOp .neq 9 x y 9, ty, pos, aft, gd⟩).run Try.prog w = .ok (.value (.bool false)) w := by
  go_simp
theorem r_neq3 {x y : Operand} {i : Int} (hx : ρ x = .int .i64 i) (hy : ρ y = .int .i64 i) : (execOp ρ ⟨dst, .binOp .neq 3 x y 3, ty, pos, aft, gd⟩).run Try.prog w = .ok (.value (.bool false)) w := by
  go_simp
theorem r_neq4 {x y : Operand} {i : Bool} (hx : ρ x = .bool i) (hy : ρ y = .bool i) : (execOp ρ ⟨dst, .binOp .neq 4 x y 4, ty, pos, aft, gd⟩).run Try.prog w = .ok (.value (.bool false)) w := by
  go_simp
theorem r_pickF {x y z : Operand} {v : Value} (hx : ρ x = .bool false) (hz : ρ z = v) : (execOp ρ ⟨dst, .pick x y z, ty, pos, aft, gd⟩).run Try.prog w = .ok (.value v) w := by
  go_simp
theorem r_len38 {x : Operand} {ao : Option Addr} {l c : Nat} (hx : ρ x = .slice ao l c) : (execOp ρ ⟨dst, .call { callee := .builtin .len, args := #[x], argTypes := #[38] }, ty, pos, aft, gd⟩).run Try.prog w = .ok (.value (.int .i64 l)) w := by
  go_simp
/-- Bytes, or none, as a string. -/
theorem r_strB {x : Operand} {v : Value} {T : List Value} (hx : ρ x = v) (hv : bytesIs w v T) (hb : ∀ u ∈ T, isByte u) :
    (execOp ρ ⟨dst, .convert 28 9 x, ty, pos, aft, gd⟩).run Try.prog w = .ok (.value (.string (strV T))) w := by
  rcases hv with ⟨rfl, rfl⟩ | ⟨g, cap, rfl, hc⟩
  · have h := run_convert_bytes_string (P := Try.prog) w 28 9 5 none 0 0 Try.underlying28 Try.underlying5 Try.underlying9
    have h2 : (Conv.bytesToString (.slice none 0 0)).run Try.prog w = .ok (.string (strV [])) w := by
      simp [Conv.bytesToString, strV, strOfNums, Builtin.firstCells]
      rfl
    simp [execOp, hx, h, h2]
  · exact r_str hx hc rfl hb
end

end Go.Proofs.Ytjepiaacaemkhaa
