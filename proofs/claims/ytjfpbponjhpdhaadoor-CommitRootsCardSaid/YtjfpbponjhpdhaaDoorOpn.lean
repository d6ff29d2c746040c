/-
  A slice of structs of one-cell fields that comes in: each field of each element, its cell and its reading. Own work, over the guide's lemmas of slices and structs.
-/
import Derived.Deep.Slices
import Derived.Deep.Fields
import Derived.ChangeSame
import Derived.OpenShut
namespace Go.Proofs.YtjfpbponjhpdhaaDoor
open Go.ChangeShapes Go.WideShapes Go.Deep Go.RowKit
section
variable {H : Type} {enc : TypeId × Value → H} {P : Program} {w : World} {base : Nat} {spare : Nat → Bool} {held : Bool}
theorem open_recs {t e : TypeId} {fs : Array Field} {v : Value} {d : DataW H} {ps : List MemPlace} (ht : P.underlying t = some (.slice e)) (he : P.underlying e = some (.struct fs))
    (hone : oneCellFields P fs = true) (hC : P.cellsOf e = fs.size) (hv : ∃ a len cap, v = .slice a len cap) (h : DataW.Trod enc P w base spare held t v d ps) :
    v = .slice none 0 0 ∨ ∃ (a : Addr) (len cap : Nat), v = .slice (some a) len cap ∧ len ≤ cap ∧ cap ≤ maxLen ∧
      ∀ i, i < len → ∀ (j : Nat) (f : Field), fs[j]? = some f → ∃ (u : Value) (y : DataW H × List MemPlace) (n : Nat), w.cell? (a.add (i * fs.size + j)) = some u ∧ DataW.trod enc P w base spare held n f.type [u] = some y := by
  obtain ⟨fuel, hf⟩ := h
  obtain ⟨a0, l0, c0, rfl⟩ := hv
  rcases open_slice ht hf with ⟨h0, _⟩ | ⟨a, len, cap, m, n, D, Pl, hcs, _, hl, hm, hmm, _, hi⟩
  · left
    simpa [Value.cells] using h0
  · right
    have hva : Value.slice a0 l0 c0 = .slice (some a) len cap := by simpa [Value.cells] using hcs
    refine ⟨a, len, cap, hva, hl, hm, fun i hil j f hj => ?_⟩
    have him : i < m := by rw [hmm]; split <;> omega
    obtain ⟨cs, hc, htr⟩ := hi i him
    rw [hC] at hc
    obtain ⟨_, hlen, hat⟩ := World.cells?_some hc
    obtain ⟨ys, n', _, _, _, _, hg⟩ := DataW.trod_struct he htr
    obtain ⟨ho, hk⟩ := hone_of hone j f hj
    have hjl : j < fs.size := (Array.getElem?_eq_some_iff.1 hj).1
    have h1 := hg j f hj
    rw [ho, hk] at h1
    have hjc : j < cs.length := by omega
    have e1 : (cs.drop j).take 1 = [cs[j]] := by rw [List.drop_eq_getElem_cons hjc]; rfl
    rw [e1] at h1
    have hcell := hat j hjl
    rw [List.getElem?_eq_getElem hjc, add_add] at hcell
    cases hy : ys[j]? with
    | none => rw [hy] at h1; rename_i hyl _; exact absurd (List.getElem?_eq_none_iff.1 hy) (by omega)
    | some y => exact ⟨_, y, n', hcell, by rw [h1, hy]⟩
theorem int_of {t : TypeId} {k : IntKind} {n : Nat} {u : Value} {y : DataW H × List MemPlace} (ht : P.underlying t = some (.int k)) (h : DataW.trod enc P w base spare held n t [u] = some y) : ∃ z, u = .int k z ∧ (Lit.int k z).wf = true := by
  obtain ⟨z, hz, _, hw⟩ := DataW.trod_int ht h
  simp at hz
  exact ⟨z, hz, hw⟩
theorem bool_of {t : TypeId} {n : Nat} {u : Value} {y : DataW H × List MemPlace} (ht : P.underlying t = some .bool) (h : DataW.trod enc P w base spare held n t [u] = some y) : ∃ z, u = .bool z := by
  obtain ⟨z, hz, _⟩ := DataW.trod_bool ht h
  simp at hz
  exact ⟨z, hz⟩
/-- A slice of structs of integers. -/
def IsRecs (ks : List IntKind) (w : World) (a : Option Addr) (len cap : Nat) : Prop :=
  (a = none ∧ len = 0 ∧ cap = 0) ∨ (len ≤ cap ∧ cap ≤ maxLen ∧ ∀ i, i < len → ∃ c off, a = some ⟨c, off, none⟩ ∧ ∀ (j : Nat) (k : IntKind), ks[j]? = some k → ∃ z : Int, w.cell? ⟨c, off + i * ks.length + j, none⟩ = some (.int k z) ∧ (Lit.int k z).wf = true)
theorem recs_of {t e : TypeId} {fs : Array Field} {ks : List IntKind} {a0 : Option Addr} {l0 c0 : Nat} {d : DataW H} {ps : List MemPlace} (ht : P.underlying t = some (.slice e)) (he : P.underlying e = some (.struct fs))
    (hone : oneCellFields P fs = true) (hC : P.cellsOf e = fs.size) (hlen : ks.length = fs.size) (h0 : 0 < ks.length) (hks : ∀ (j : Nat) (k : IntKind), ks[j]? = some k → ∃ f : Field, fs[j]? = some f ∧ P.underlying f.type = some (.int k))
    (h : DataW.Trod enc P w base spare held t (.slice a0 l0 c0) d ps) : IsRecs ks w a0 l0 c0 := by
  rcases open_recs ht he hone hC ⟨_, _, _, rfl⟩ h with hn | ⟨a, len, cap, hv, hl, hm, hi⟩
  · simp at hn
    exact .inl hn
  · simp at hv
    obtain ⟨rfl, rfl, rfl⟩ := hv
    refine .inr ⟨hl, hm, fun i hil => ?_⟩
    obtain ⟨b, off, spot⟩ := a
    have hspot : spot = none := by
      obtain ⟨f, hf, _⟩ := hks 0 ks[0] (List.getElem?_eq_getElem h0)
      obtain ⟨u, _, _, hc, _⟩ := hi 0 (by omega) 0 f hf
      simpa [Addr.add] using World.cell?_spot hc
    subst hspot
    refine ⟨b, off, rfl, fun j k hj => ?_⟩
    obtain ⟨f, hf, hu⟩ := hks j k hj
    obtain ⟨u, y, n, hc, ht'⟩ := hi i hil j f hf
    obtain ⟨z, rfl, hz⟩ := int_of hu ht'
    refine ⟨z, ?_, hz⟩
    have ha : (⟨b, off, none⟩ : Addr).add (i * fs.size + j) = ⟨b, off + i * ks.length + j, none⟩ := by
      rw [hlen, Addr.add]
      split <;> simp_all <;> omega
    rw [← ha]; exact hc
end
end Go.Proofs.YtjfpbponjhpdhaaDoor
