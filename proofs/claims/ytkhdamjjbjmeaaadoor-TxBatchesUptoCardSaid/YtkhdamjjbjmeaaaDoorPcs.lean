/-
  A slice of slices of bytes as it comes in, and its bulk. Own work.
-/
import Derived.Test.YtkhdamjjbjmeaaaDoorSz
import Derived.Test.YtkhdamjjbjmeaaaDoorRows
import Derived.Deep.Slices
namespace Go.Proofs.YtkhdamjjbjmeaaaDoor
open Go.ChangeShapes Go.WideShapes Go.Deep Go.RowKit
set_option linter.unusedVariables false
namespace Kc
abbrev Pc := Option Addr × Nat × List Bt
structure PcAt (w : World) (u : Value) (p : Pc) : Prop where
  val : u = .slice p.1 p.2.2.length p.2.1
  bs : IsBs w p.1 p.2.2
  nil : p.1 = none → p.2.2 = [] ∧ p.2.1 = 0
  cap : p.2.2.length ≤ p.2.1
  max : p.2.1 ≤ maxLen
/-- The pieces that lie behind an address. -/
def IsPcs (w : World) (A : Option Addr) (ls : List Pc) : Prop := ls = [] ∨ ∃ b o, A = some ⟨b, o, none⟩ ∧ ∀ j p, ls[j]? = some p → ∃ u, w.cell? ⟨b, o + j, none⟩ = some u ∧ PcAt w u p
def lens (ls : List Pc) : Nat := (ls.map fun p => p.2.2.length).sum
section
variable {H : Type}
theorem bulk_append (l r : List (DataW H)) : Rows.uptoBulkAll (l ++ r) = Rows.uptoBulkAll l + Rows.uptoBulkAll r := by
  induction l with
  | nil => simp [Rows.uptoBulkAll]
  | cons x l ih => simp only [List.cons_append, Rows.uptoBulkAll, ih]; omega
theorem bulk_pos (d : DataW H) : 1 ≤ Rows.uptoBulk d := by
  cases d with
  | lit l => cases l <;> simp [Rows.uptoBulk]
  | nil => simp [Rows.uptoBulk]
  | ptr d => simp [Rows.uptoBulk]
  | slice a b => simp [Rows.uptoBulk]
  | agg a => simp [Rows.uptoBulk]
  | iface t d => simp [Rows.uptoBulk]
  | map e => simp [Rows.uptoBulk]
  | held h => simp [Rows.uptoBulk]
theorem bulk_len (l : List (DataW H)) : l.length ≤ Rows.uptoBulkAll l := by
  induction l with
  | nil => simp [Rows.uptoBulkAll]
  | cons x r ih => have := bulk_pos x; simp only [Rows.uptoBulkAll, List.length_cons]; omega
theorem bulk_range (D : Nat → DataW H) (f : Nat → Nat) : ∀ n, (∀ i, i < n → f i ≤ Rows.uptoBulk (D i)) → ((List.range n).map f).sum ≤ Rows.uptoBulkAll ((List.range n).map D)
  | 0, _ => by simp [Rows.uptoBulkAll]
  | n + 1, h => by
    have ih := bulk_range D f n (fun i hi => h i (by omega))
    have h1 := h n (Nat.lt_succ_self n)
    rw [List.range_succ, List.map_append, List.map_append, bulk_append, List.sum_append]
    simp only [List.map_cons, List.map_nil, Rows.uptoBulkAll, List.sum_cons, List.sum_nil]
    omega
variable {enc : TypeId × Value → H} {P : Program} {w : World} {base : Nat} {held : Bool}
theorem piece_of {t e : TypeId} {n : Nat} {u : Value} {y : DataW H × List MemPlace} (ht : P.underlying t = some (.slice e)) (he : P.underlying e = some (.int .u8)) (hC : P.cellsOf e = 1) (h : DataW.trod enc P w base (fun _ => true) held n t [u] = some y) :
    ∃ p : Pc, PcAt w u p ∧ p.2.2.length ≤ Rows.uptoBulk y.1 := by
  rcases open_ints ht he hC h with ⟨hcs, hy⟩ | ⟨x, l, c, zs, hcs, _, hl, hm, hz, hx, hcell, hwz⟩
  · injection hcs with hcs _
    exact ⟨(none, 0, []), ⟨hcs, .inl rfl, fun _ => ⟨rfl, rfl⟩, Nat.le_refl _, by decide⟩, Nat.zero_le _⟩
  · injection hcs with hcs _
    have hzl : zs.length = c := by simpa using hz
    obtain ⟨bs, hb1, hb2, hb3, hb4, hb5⟩ := bytes_row (w := w) (a := some x) (len := l) (cap := c) (zs := zs) (.inr ⟨x, rfl, hl, hm, hzl, hcell, hwz⟩)
    refine ⟨(some x, c, bs), ⟨by rw [hcs]; show _ = Value.slice (some x) bs.length c; rw [hb1], hb2, hb3, hb4, hb5⟩, ?_⟩
    rw [hx]
    show bs.length ≤ Rows.uptoBulk (.slice (lits .u8 (zs.take l)) (lits .u8 (zs.drop l)))
    have h1 := bulk_len (lits (H := H) .u8 (zs.take l))
    simp only [Rows.uptoBulk]
    simp [lits] at h1 ⊢
    omega
theorem pieces_of {t e k : TypeId} {A : Option Addr} {len cap : Nat} {d : DataW H} {ps : List MemPlace} (ht : P.underlying t = some (.slice e)) (he : P.underlying e = some (.slice k)) (hk : P.underlying k = some (.int .u8)) (hCe : P.cellsOf e = 1) (hCk : P.cellsOf k = 1)
    (h : DataW.Trod enc P w base (fun _ => true) held t (.slice A len cap) d ps) :
    ∃ ls : List Pc, ls.length = len ∧ IsPcs w A ls ∧ (A = none → ls = [] ∧ cap = 0) ∧ len ≤ cap ∧ cap ≤ maxLen ∧ lens ls ≤ Rows.uptoBulk d := by
  obtain ⟨fuel, hf⟩ := h
  rcases open_slice ht hf with ⟨h0, _⟩ | ⟨a, len', cap', m, n, D, Pl, hcs, _, hl, hm, hmm, hx, hi⟩
  · simp [Value.cells] at h0
    obtain ⟨rfl, rfl, rfl⟩ := h0
    exact ⟨[], rfl, .inl rfl, fun _ => ⟨rfl, rfl⟩, Nat.le_refl _, by decide, Nat.zero_le _⟩
  · simp [Value.cells] at hcs
    obtain ⟨rfl, rfl, rfl⟩ := hcs
    have hm' : m = cap := by simpa using hmm
    subst hm'
    have key : ∀ i, ∃ p : Pc, i < len → ∃ u, w.cell? (a.add i) = some u ∧ PcAt w u p ∧ p.2.2.length ≤ Rows.uptoBulk (D i) := by
      intro i
      by_cases hil : i < len
      · obtain ⟨cs, hc, htr⟩ := hi i (by omega)
        rw [hCe, Nat.mul_one] at hc
        obtain ⟨_, hlen, hat⟩ := World.cells?_some hc
        match cs, hlen, hat, htr with
        | [u], _, hat, htr =>
          obtain ⟨p, h1, h2⟩ := piece_of he hk hCk htr
          exact ⟨p, fun _ => ⟨u, by have h9 := hat 0 (by decide); rw [show (a.add i).add 0 = a.add i from by cases (a.add i); rfl] at h9; simpa using h9, h1, h2⟩⟩
      · exact ⟨(none, 0, []), fun h => absurd h hil⟩
    obtain ⟨f, hf'⟩ := Classical.axiomOfChoice key
    refine ⟨(List.range len).map f, by simp, ?_, fun h => (by cases h), hl, hm, ?_⟩
    · rcases Nat.eq_zero_or_pos len with e0 | e0
      · exact .inl (by subst e0; rfl)
      · right
        obtain ⟨b, o, s⟩ := a
        have hs : s = none := by
          cases s with
          | none => rfl
          | some s0 =>
            obtain ⟨u, hc0, _⟩ := hf' 0 e0
            have e0 : ((⟨b, o, some s0⟩ : Addr).add 0) = ⟨b, o, some s0⟩ := by rfl
            rw [e0] at hc0
            simp only [World.cell?] at hc0
            split at hc0 <;> simp at hc0
        subst hs
        refine ⟨b, o, rfl, fun j p hj => ?_⟩
        have hjl : j < len := by have := (List.getElem?_eq_some_iff.1 hj).1; simpa using this
        obtain ⟨u, h1, h2, _⟩ := hf' j hjl
        rw [add_at] at h1
        have hp : f j = p := by simpa [hjl] using hj
        rw [← hp]
        exact ⟨u, h1, h2⟩
    · injection hx with hx _
      rw [hx]
      have := bulk_range D (fun i => (f i).2.2.length) len (fun i hi => by obtain ⟨u, _, _, h⟩ := hf' i hi; exact h)
      simp only [Rows.uptoBulk]
      unfold lens
      rw [List.map_map]
      show ((List.range len).map fun i => (f i).2.2.length).sum ≤ _
      omega
end
end Kc
end Go.Proofs.YtkhdamjjbjmeaaaDoor
