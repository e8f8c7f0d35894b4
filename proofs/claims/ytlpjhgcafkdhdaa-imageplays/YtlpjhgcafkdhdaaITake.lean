/-
  What the law does with each block that All hands on.
-/
import Derived.Test.YtlpjhgcafkdhdaaIRefD
namespace Go.Proofs.Ytlpjhgcafkdhdaa
open Go.RowKit Go.Shelf
set_option linter.unusedSimpArgs false
set_option linter.unusedVariables false
set_option maxRecDepth 100000

/-- So many blocks were looked at. -/
def TJ (X : List Nat) (ex en : Nat) (pre : List Nat) (F : NSet) (W : World) : Prop := Blk W ex [.string (strN X)] 9 ∧ Blk W en [.int .i64 pre.length] 3 ∧ F = (fun k => k = en) ∧ pre.length < 3
def TX (X : List Nat) (ex en : Nat) (pre : List Nat) (F : NSet) (W : World) : Prop := Blk W ex [.string (strN X)] 9 ∧ Blk W en [.int .i64 pre.length] 3 ∧ F = (fun k => k = en) ∧ pre.length = 3
theorem TJ.stab {X : List Nat} {ex en M : Nat} (h : ex < M) (pre : List Nat) : Stab M (fun _ => False) (TJ X ex en pre) := by
  refine ⟨?_, ?_⟩
  · rintro F W ⟨h1, h2, rfl, h4⟩ k rfl
    exact h2.lt
  · rintro F W W' S ⟨h1, h2, rfl, h4⟩ hk hs1 hs2
    exact ⟨hk.blk h1 (fun hs => hs2 ex hs h), hk.blk h2 (fun hs => hs1 en hs rfl), rfl, h4⟩
theorem TX.stab {X : List Nat} {ex en M : Nat} (h : ex < M) (pre : List Nat) : Stab M (fun _ => False) (TX X ex en pre) := by
  refine ⟨?_, ?_⟩
  · rintro F W ⟨h1, h2, rfl, h4⟩ k rfl
    exact h2.lt
  · rintro F W W' S ⟨h1, h2, rfl, h4⟩ hk hs1 hs2
    exact ⟨hk.blk h1 (fun hs => hs2 ex hs h), hk.blk h2 (fun hs => hs1 en hs rfl), rfl, h4⟩
theorem range_at {n x : Nat} {pre post : List Nat} (h : List.range n = pre ++ x :: post) : x = pre.length ∧ x < n := by
  have h1 : (List.range n)[pre.length]? = some x := by rw [h]; simp
  rw [List.getElem?_range (by have := congrArg List.length h; simp at this; omega)] at h1
  cases h1
  exact ⟨rfl, by have := congrArg List.length h; simp at this; omega⟩

set_option maxRecDepth 100000 in
set_option maxHeartbeats 4000000 in
theorem take_at (W : World) (X : List Nat) (n ex en : Nat) (k : Nat) (s : Sl) (hX : X.length = 64 * n) (hXl : ∀ x ∈ X, x < 256) (hn : n ≤ 64) (hk : k < n) (hk3 : k < 3) (hex : Blk W ex [.string (strN X)] 9) (hen : Blk W en [.int .i64 k] 3) (ho : Own W 0 s.v (getB X k)) :
    Calls Try.prog 21 #[.int .i64 k, .slice s.a s.n s.c, .pointer (some ⟨ex, 0, none⟩), .pointer (some ⟨en, 0, none⟩)] W fun e W' => e = .returned (.bool (decide (k + 1 < 3))) ∧ Blk W' en [.int .i64 ((k + 1 : Nat) : Int)] 3 ∧ Kept (fun j => j = en) W W' := by
  have c0 : W.cell? ⟨ex, 0, none⟩ = some (.string (strN X)) := hex.cell 0
  have c1 : W.cell? ⟨en, 0, none⟩ = some (.int .i64 k) := hen.cell 0
  have e1 : rgetB X n k = getB X k := by unfold rgetB; rw [if_pos (by omega), Int.toNat_natCast]
  have HG := hide (rget_at W X n hX hn k true (by simp; omega))
  rw [e1] at HG
  have HEn := hide hen
  have HO := hide ho.src
  obtain ⟨i3, hi3, hz3, hs3, hb3⟩ := info_parts Try.info3
  have Hi3 := hide hi3
  have Hs3 := hide hs3
  obtain ⟨S, hS⟩ : ∃ S, strN (getB X k) = S := ⟨_, rfl⟩
  have HCv := hide (fun (ρ : Operand → Value) (dst : Option Tmp) (ty : TypeId) (x : Operand) (pos : String) (aft : Array Edge) (gd : Option (Nat × Bool)) (hx : ρ x = .slice s.a s.n s.c) => r_strS (dst := dst) (ty := ty) (pos := pos) (aft := aft) (gd := gd) (w := W) (ρ := ρ) (x := x) hx HO.out)
  rw [hS] at HG
  simp only [hS] at HCv
  obtain ⟨sa, sn, sc⟩ := s
  have hw : IntKind.i64.wrap ((k : Int) + 1) = ((k + 1 : Nat) : Int) := by rw [IntKind.wrap_i64]; omega
  clear hX hXl hn hk hex hen ho e1 hi3 hz3 hs3 hb3 hS
  go_enter Try.func21, Try.ntmps21
  go_wp2_with (first
    | (go_at_call 19; refine HG.out.mono ?_; rintro e w5 ⟨rfl, rfl⟩)
    | (with_reducible refine stop_convertG 28 9 ?_)
    | (with_reducible refine stop_store 3 ?_))
  refine hide ?_
  refine wpList_runG rfl (HCv.out _ _ _ _ _ _ _ rfl) ?_
  try simp only [put_lit, put_none, List.set_cons_succ, List.set_cons_zero]
  go_wp2_with (with_reducible refine stop_store 3 ?_)
  refine hide ?_
  refine aw_store1 (v := .int .i64 ((k + 1 : Nat) : Int)) Hi3.out Hs3.out rfl (by simp only [Act.eval]; rfl) rfl rfl HEn.out (by simp) ?_
  intro w6 hb6 hk6 hz6
  have hb6' : Blk w6 en [.int .i64 ((k + 1 : Nat) : Int)] 3 := hb6
  have d1 : w6.cell? ⟨en, 0, none⟩ = some (.int .i64 ((k + 1 : Nat) : Int)) := hb6'.cell 0
  have HB6 := hide hb6'
  have HK6 := hide hk6
  clear hb6 hk6 hz6 c0 c1 hb6'
  try simp only [put_lit, put_none, List.set_cons_succ, List.set_cons_zero]
  have q0 : (0 : Int) ≤ ((k + 1 : Nat) : Int) := by omega
  go_wp2
  go_ret
  refine ⟨?_, HB6.out, HK6.out⟩
  have e : decide ((k : Int) + 1 < 3) = decide (k + 1 < 3) := decide_eq_decide.2 (by omega)
  rw [← e]
  rfl
/-- The law's function takes what All hands on. -/
theorem take_takes (X : List Nat) (n ex en B : Nat) (F0 : NSet) (hX : X.length = 64 * n) (hXl : ∀ x ∈ X, x < 256) (hn : n ≤ 64) :
    Takes2 Try.prog (EK X) (List.range n) B F0 (.func (.func 21) #[] #[.pointer (some ⟨ex, 0, none⟩), .pointer (some ⟨en, 0, none⟩)]) (TJ X ex en) (TX X ex en) := by
  rintro pre x post F G v W hxs ⟨h1, h2, rfl, h4⟩ hBW hF ⟨s, rfl, ho, hG⟩ hG2
  obtain ⟨rfl, hxn⟩ := range_at hxs
  refine .inl ⟨_, _, rfl, enters_of Try.func21 (by kernel_rfl) rfl, ?_⟩
  refine (take_at W X n ex en pre.length s hX hXl hn hxn h4 h1 h2 ho).mono ?_
  rintro e W' ⟨rfl, hb, hk⟩
  have hx := hk.blk h1 (fun h => by
    have := h1.ne h2 (by decide)
    exact this h)
  have hl : (pre ++ [pre.length]).length = pre.length + 1 := by simp
  refine ⟨fun k => k = en, ?_, hk.mono (fun _ _ h => .inl h), fun k h => .inl h⟩
  by_cases h3 : pre.length + 1 < 3
  · exact .inl ⟨by rw [decide_eq_true h3], hx, by rw [hl]; exact hb, rfl, by omega⟩
  · exact .inr ⟨by rw [decide_eq_false h3], hx, by rw [hl]; exact hb, rfl, by omega⟩
end Go.Proofs.Ytlpjhgcafkdhdaa
