/-
  Rows of texts of the call's own; a text that comes in. Own work.
-/
import Derived.Test.YtkhdamjjbjmeaaaDoorV7
namespace Go.Proofs.YtkhdamjjbjmeaaaDoor
open Go.ChangeShapes Go.WideShapes Go.Deep Go.RowKit
set_option linter.unusedVariables false
set_option linter.unusedSimpArgs false
namespace Rl
/-- What is neither the row's block nor one of O. -/
def Away (V : Value) (O : Nat → Prop) (b : Nat) : Prop := V.ownBlock ≠ some b ∧ ¬ O b
/-- A row of texts. -/
def RowS (w : World) (B : Nat) (O : Nat → Prop) (V : Value) (ls : List (List Bt)) : Prop :=
  ∃ vs : List Value, w.ownsRow B 38 1 V ls.length vs ∧ vs.length = ls.length ∧ ∀ (i : Nat) (x : List Bt), ls[i]? = some x → ∃ a n c, vs[i]? = some (.slice a n c) ∧ IsB (see (Away V O) w) a n c x
theorem RowS.nil (w : World) (B : Nat) (O : Nat → Prop) : RowS w B O (.slice none 0 0) [] := ⟨[], World.ownsRow_nil _ _ _ _, rfl, fun i x h => by simp at h⟩
theorem RowS.base {w : World} {B : Nat} {O : Nat → Prop} {V : Value} {ls : List (List Bt)} (h : RowS w B O V ls) {k : Nat} (hk : V.ownBlock = some k) : B ≤ k ∧ k < w.heap.size := by
  obtain ⟨vs, h, _⟩ := h
  rcases ownsRow_forms h with ⟨e, _⟩ | ⟨g, cap, e, h1, h2, _⟩
  · rw [e] at hk; cases hk
  · rw [e] at hk; injection hk with hk; subst hk; exact ⟨h1, h2⟩
theorem RowS.next {w w' : World} {B : Nat} {O : Nat → Prop} {V : Value} {ls : List (List Bt)} (h : RowS w B O V ls) (hb : Below w.heap.size w w') : RowS w' B O V ls := by
  obtain ⟨vs, h1, h2, h3⟩ := h
  exact ⟨vs, (Kept.ofBelow (S := fun _ => False) hb).row h1 (fun _ _ h => h), h2, fun i x hx => by obtain ⟨a, n, c, h4, h5⟩ := h3 i x hx; exact ⟨a, n, c, h4, h5.keep (see_below hb)⟩⟩
/-- Another row grows. -/
theorem RowS.grownO {w w' : World} {B : Nat} {O O' : Nat → Prop} {V U : Value} {ls : List (List Bt)} (h : RowS w B O V ls) (hg : w.grownBy w' U.ownBlock) (hn : ∀ k, V.ownBlock = some k → U.ownBlock ≠ some k) (hU : ∀ k, U.ownBlock = some k → O k) (hO : ∀ k, O' k → O k ∨ w.heap.size ≤ k) : RowS w' B O' V ls := by
  obtain ⟨vs, h1, h2, h3⟩ := h
  refine ⟨vs, ((Kept.refl (fun b => U.ownBlock = some b) w).grown hg (fun k hk => .inl hk)).row h1 (fun k hk hs => hn k hk hs), h2, fun i x hx => ?_⟩
  obtain ⟨a, n, c, h4, h5⟩ := h3 i x hx
  refine ⟨a, n, c, h4, h5.keep (keep_see fun b o v g1 g2 => ?_)⟩
  have hb := inHeap g2
  refine ⟨⟨g1.1, fun e => ?_⟩, (grown_cell hg hb (fun e => g1.2 (hU b e))).trans g2⟩
  rcases hO b e with h | h
  · exact g1.2 h
  · omega
theorem RowS.form {w : World} {B : Nat} {O : Nat → Prop} {V : Value} {ls : List (List Bt)} (h : RowS w B O V ls) : ∃ a c, V = .slice a ls.length c := by
  obtain ⟨vs, h, _⟩ := h
  rcases ownsRow_forms h with ⟨e, e2⟩ | ⟨g, cap, e, _⟩
  · exact ⟨none, 0, by rw [e, e2]⟩
  · exact ⟨_, cap, e⟩
/-- The row as a slice of texts. -/
theorem RowS.isBB {w : World} {B : Nat} {O : Nat → Prop} {V : Value} {ls : List (List Bt)} (h : RowS w B O V ls) : ∃ a c, V = .slice a ls.length c ∧ IsBB w a ls.length c ls := by
  obtain ⟨vs, h1, h2, h3⟩ := h
  have hc := @World.ownsRow.cells w B 38 1 V ls.length vs h1
  rcases h1.2 with ⟨e1, e2⟩ | ⟨g, cap, cur, e1, e2, e3, e4, e5, _, _⟩
  · exact ⟨none, 0, by rw [e1, e2], rfl, by omega, by decide, fun _ => rfl, .inl e2⟩
  · refine ⟨some ⟨g, 0, none⟩, cap, e1, rfl, e4, e5, fun e => (by cases e), .inr ⟨g, 0, rfl, fun i x hx => ?_⟩⟩
    obtain ⟨a, n, c, h4, h5⟩ := h3 i x hx
    have h6 := hc (g := g) (by rw [e1]; rfl) i _ h4
    rw [add_at] at h6
    exact ⟨a, n, c, h6, h5.keep (see_keep _ _)⟩
theorem infoS : ∃ i, Tryd.prog.info? 38 = some i ∧ i.zero = some (.slice none 0 0) ∧ i.size = 1 ∧ i.bytes = 24 := by
  refine ⟨(Tryd.prog.info? 38).get (by kernel_rfl), by kernel_rfl, by kernel_rfl, by kernel_rfl, by kernel_rfl⟩
theorem undS : Tryd.prog.underlying 51 = some (.slice 38) := by kernel_rfl
/-- append of a text. -/
theorem wpList_appS {w : World} {ops : Array Oper} {rest : List Oper} {o : Oper} {a : Act} {Q : Exit → Act → World → Prop} (hgd : o.guard = none) (s x : Operand)
    (ho : o.op = .call { callee := .builtin .append, args := #[s, x], argTypes := #[51, 51] }) (B : Nat) (O : Nat → Prop) (V : Value) (ls : List (List Bt)) (hs : a.eval s = V) (hr : RowS w B O V ls) (hB : B ≤ w.heap.size)
    (ad : Addr) (c : Nat) (t : List Bt) (a1 : Option Addr) (n1 c1 : Nat) (hx : a.eval x = .slice (some ad) 1 c) (hc : w.cell? (ad.add 0) = some (.slice a1 n1 c1)) (hv : IsB (see (Away V O) w) a1 n1 c1 t) (hlen : ls.length + 1 ≤ 1073741824) (hO : ∀ k, O k → k < w.heap.size)
    (h : ∀ V' w', RowS w' B O V' (ls ++ [t]) → w.grownBy w' V.ownBlock → (∀ k, V'.ownBlock = some k → V.ownBlock = some k ∨ k = w.heap.size) → wpList Tryd.prog ops Q rest (a.put o.dst V') w') : wpList Tryd.prog ops Q (o :: rest) a w := by
  obtain ⟨i, hi⟩ := infoS
  obtain ⟨vs, h1, h2, h3⟩ := hr
  refine wpList_append_at w hgd s x 51 ho B 38 i _ 1 24 undS hi rfl (by decide) V ls.length vs hs h1 ad 1 c [.slice a1 n1 c1] hx rfl (by intro j u hu; match j with | 0 => simp at hu; subst hu; exact hc | j + 1 => simp at hu) (by intro u hu; simp at hu; subst hu; rfl) (by unfold maxLen; omega) (by omega) hB
    fun V' w' g1 g2 g3 => h V' w' ?_ g2 g3
  have hk : Keep (see (Away V O) w) (see (Away V' O) w') := keep_see fun b o v q1 q2 => by
    have hb := inHeap q2
    refine ⟨⟨fun e => ?_, q1.2⟩, (grown_cell g2 hb q1.1).trans q2⟩
    rcases g3 b e with h | h
    · exact q1.1 h
    · omega
  refine ⟨vs ++ [.slice a1 n1 c1], by rw [List.length_append]; exact g1, by simp [h2], fun i x hx => ?_⟩
  by_cases hi : i < ls.length
  · rw [List.getElem?_append_left hi] at hx
    obtain ⟨a, n, c, h4, h5⟩ := h3 i x hx
    exact ⟨a, n, c, by rw [List.getElem?_append_left (by omega)]; exact h4, h5.keep hk⟩
  · rw [List.getElem?_append_right (by omega)] at hx
    have e0 : i - ls.length = 0 := by
      by_cases h0 : i - ls.length = 0
      · exact h0
      · rw [List.getElem?_eq_none (by simp; omega)] at hx; cases hx
    rw [e0] at hx
    simp at hx
    subst hx
    exact ⟨a1, n1, c1, by rw [List.getElem?_append_right (by omega), h2, e0]; rfl, hv.keep hk⟩
set_option maxRecDepth 100000 in
theorem bytes_in {H : Type} {enc : TypeId × Value → H} {w : World} {base : Nat} {spare : Nat → Bool} {held : Bool} {r : Reach} {b0 : Nat} {v : Value} {d : DataW H} {p : List MemPlace} (hv : Value.okWide Tryd.prog w r b0 38 v)
    (h : DataW.Trod enc Tryd.prog w base spare held 38 v d p) (hw : ∀ m ∈ d.weights Tryd.prog 38, m ≤ reachBytes) : ∃ a n c bs, v = .slice a n c ∧ IsB w a n c bs ∧ n ≤ reachBytes := by
  obtain ⟨a, n, c, rfl⟩ := okWide_slice Tryd.underlying38 hv
  obtain ⟨fuel, hf⟩ := h
  obtain ⟨a', n', c', bs, e, h1, h2⟩ := bytes_fit Tryd.underlying38 Tryd.underlying5 (by kernel_rfl) (by kernel_rfl) hf
  simp [Value.cells] at e
  obtain ⟨rfl, rfl, rfl⟩ := e
  exact ⟨a, n, c, bs, rfl, h1, h2 hw⟩
end Rl
end Go.Proofs.YtkhdamjjbjmeaaaDoor
