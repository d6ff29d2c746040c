/-
  A struct of integers that comes in; a cell that comes in. Own work, over the guide's lemmas of structs.
-/
import Derived.Test.YtgffohmneobblaaDoorOpn
import Derived.Test.YtgffohmneobblaaDoorCm
namespace Go.Proofs.YtgffohmneobblaaDoor
open Go.ChangeShapes Go.WideShapes Go.Deep Go.RowKit
section
variable {H : Type} {enc : TypeId × Value → H} {P : Program} {w : World} {base b0 : Nat} {spare : Nat → Bool} {held : Bool} {r : Reach}
theorem rec_of {t : TypeId} {fs : Array Field} {ks : List IntKind} {v : Value} {d : DataW H} {ps : List MemPlace} (ht : P.underlying t = some (.struct fs))
    (hone : oneCellFields P fs = true) (hC : P.cellsOf t = fs.size) (hlen : ks.length = fs.size) (hks : ∀ (j : Nat) (k : IntKind), ks[j]? = some k → ∃ f : Field, fs[j]? = some f ∧ P.underlying f.type = some (.int k))
    (hv : Value.okWide P w r b0 t v) (h : DataW.Trod enc P w base spare held t v d ps) : ∃ cs : List Value, v = .agg cs.toArray ∧ cs.length = ks.length ∧ ∀ (j : Nat) (k : IntKind), ks[j]? = some k → ∃ z : Int, cs[j]? = some (.int k z) ∧ (Lit.int k z).wf = true := by
  obtain ⟨⟨cs⟩, rfl, hsz⟩ := okWide_struct ht hv
  have hsz : cs.length = fs.size := hsz.trans hC
  obtain ⟨fuel, hf⟩ := h
  have hf : DataW.trod enc P w base spare held fuel t cs = some (d, ps) := by simpa [Value.cells] using hf
  obtain ⟨ys, n', _, _, _, _, hg⟩ := DataW.trod_struct ht hf
  refine ⟨cs, rfl, by omega, fun j k hj => ?_⟩
  obtain ⟨f, hfj, hu⟩ := hks j k hj
  obtain ⟨ho, hk⟩ := hone_of hone j f hfj
  have hjl : j < fs.size := (Array.getElem?_eq_some_iff.1 hfj).1
  have h1 := hg j f hfj
  rw [ho, hk] at h1
  have hjc : j < cs.length := by omega
  have e1 : (cs.drop j).take 1 = [cs[j]] := by rw [List.drop_eq_getElem_cons hjc]; rfl
  rw [e1] at h1
  cases hy : ys[j]? with
  | none => rename_i hyl _ _ _; exact absurd (List.getElem?_eq_none_iff.1 hy) (by omega)
  | some y =>
    rw [hy] at h1
    obtain ⟨z, hz, hw⟩ := int_of hu h1
    exact ⟨z, by rw [List.getElem?_eq_getElem hjc, hz], hw⟩
end
namespace Co
set_option maxRecDepth 100000 in
theorem cl_in {H : Type} {enc : TypeId × Value → H} {w : World} {r : Reach} {b0 base : Nat} {spare : Nat → Bool} {held : Bool} {v : Value} {d : DataW H} {p : List MemPlace} (hv : Value.okWide Tryd.prog w r b0 61 v)
    (h : DataW.Trod enc Tryd.prog w base spare held 61 v d p) : ∃ x y : Int, v = .agg #[.int .u64 x, .int .u64 y] ∧ (Lit.int .u64 x).wf = true ∧ (Lit.int .u64 y).wf = true := by
  obtain ⟨cs, rfl, hl, hc⟩ := rec_of (ks := [.u64, .u64]) Tryd.underlying61 (by kernel_rfl) (by kernel_rfl) rfl (by
    intro j k hj
    rcases j with _ | j
    · injection hj with hj; subst hj; exact ⟨_, rfl, by kernel_rfl⟩
    rcases j with _ | j
    · injection hj with hj; subst hj; exact ⟨_, rfl, by kernel_rfl⟩
    · simp at hj) hv h
  match cs, hl with
  | [x0, x1], _ =>
    obtain ⟨z0, h0, b0⟩ := hc 0 .u64 rfl
    obtain ⟨z1, h1, b1⟩ := hc 1 .u64 rfl
    obtain rfl : x0 = _ := Option.some.inj h0
    obtain rfl : x1 = _ := Option.some.inj h1
    exact ⟨z0, z1, rfl, b0, b1⟩
end Co
end Go.Proofs.YtgffohmneobblaaDoor
