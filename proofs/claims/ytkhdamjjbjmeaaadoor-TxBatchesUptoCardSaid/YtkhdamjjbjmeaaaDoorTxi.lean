/-
  A struct of integers that comes in; a transaction that comes in. Own work, over the guide's lemmas of structs.
-/
import Derived.Test.YtkhdamjjbjmeaaaDoorV2
import Derived.Test.YtkhdamjjbjmeaaaDoorOpn
namespace Go.Proofs.YtkhdamjjbjmeaaaDoor
open Go.ChangeShapes Go.WideShapes Go.Deep Go.RowKit
section
variable {H : Type} {enc : TypeId × Value → H} {P : Program} {w : World} {base b0 : Nat} {spare : Nat → Bool} {held : Bool} {r : Reach}
theorem rec_of {t : TypeId} {fs : Array Field} {ks : List IntKind} {v : Value} {d : DataW H} {ps : List MemPlace} (ht : P.underlying t = some (.struct fs))
    (hone : oneCellFields P fs = true) (hC : P.cellsOf t = fs.size) (hlen : ks.length = fs.size) (hks : ∀ (j : Nat) (k : IntKind), ks[j]? = some k → ∃ f : Field, fs[j]? = some f ∧ P.underlying f.type = some (.int k))
    (hv : Value.okWide P w r b0 t v) (h : DataW.Trod enc P w base spare held t v d ps) : ∃ cs : List Value, v = .agg cs.toArray ∧ cs.length = ks.length ∧ ∀ (j : Nat) (k : IntKind), ks[j]? = some k → ∃ z : Int, cs[j]? = some (.int k z) ∧ (Lit.int k z).wf = true := by
  obtain ⟨⟨cs⟩, rfl, hsz⟩ := okWide_struct ht hv
  have hsz : cs.length = fs.size := hsz.trans hC
  obtain ⟨fuel, hf⟩ := h
  have hf : DataW.trod enc P w base spare held fuel t cs = some (d, ps) := by simpa [Value.cells] using hf
  obtain ⟨ys, n', _, _, _, _, hg⟩ := DataW.trod_struct ht hf
  refine ⟨cs, rfl, by omega, fun j k hj => ?_⟩
  obtain ⟨f, hfj, hu⟩ := hks j k hj
  obtain ⟨ho, hk⟩ := hone_of hone j f hfj
  have hjl : j < fs.size := (Array.getElem?_eq_some_iff.1 hfj).1
  have h1 := hg j f hfj
  rw [ho, hk] at h1
  have hjc : j < cs.length := by omega
  have e1 : (cs.drop j).take 1 = [cs[j]] := by rw [List.drop_eq_getElem_cons hjc]; rfl
  rw [e1] at h1
  cases hy : ys[j]? with
  | none => rename_i hyl _ _ _; exact absurd (List.getElem?_eq_none_iff.1 hy) (by omega)
  | some y =>
    rw [hy] at h1
    obtain ⟨z, hz, hw⟩ := int_of hu h1
    exact ⟨z, by rw [List.getElem?_eq_getElem hjc, hz], hw⟩
end
theorem u64_bd {z : Int} (h : (Lit.int .u64 z).wf = true) : 0 ≤ z ∧ z ≤ 18446744073709551615 := by
  have h4 : IntKind.u64.min ≤ z ∧ z ≤ IntKind.u64.max := by simpa [Lit.wf] using h
  have e1 : IntKind.u64.min = 0 := by rfl
  have e2 : IntKind.u64.max = 18446744073709551615 := by rfl
  rw [e1, e2] at h4; exact h4
namespace Rl
set_option maxRecDepth 100000 in
theorem tx_in {H : Type} {enc : TypeId × Value → H} {w : World} {r : Reach} {b0 base : Nat} {spare : Nat → Bool} {held : Bool} {v : Value} {d : DataW H} {p : List MemPlace} (hv : Value.okWide Tryd.prog w r b0 36 v)
    (h : DataW.Trod enc Tryd.prog w base spare held 36 v d p) : ∃ f, v = txv f ∧ ∀ i, i < 6 → f i < 18446744073709551616 := by
  obtain ⟨cs, rfl, hl, hc⟩ := rec_of (ks := [.u64, .u64, .u64, .u64, .u64, .u64]) Tryd.underlying36 (by kernel_rfl) (by kernel_rfl) rfl (by
    intro j k hj
    rcases j with _ | j
    · injection hj with hj; subst hj; exact ⟨_, rfl, by kernel_rfl⟩
    rcases j with _ | j
    · injection hj with hj; subst hj; exact ⟨_, rfl, by kernel_rfl⟩
    rcases j with _ | j
    · injection hj with hj; subst hj; exact ⟨_, rfl, by kernel_rfl⟩
    rcases j with _ | j
    · injection hj with hj; subst hj; exact ⟨_, rfl, by kernel_rfl⟩
    rcases j with _ | j
    · injection hj with hj; subst hj; exact ⟨_, rfl, by kernel_rfl⟩
    rcases j with _ | j
    · injection hj with hj; subst hj; exact ⟨_, rfl, by kernel_rfl⟩
    · simp at hj) hv h
  match cs, hl with
  | [x0, x1, x2, x3, x4, x5], _ =>
    have key : ∀ j, j < 6 → ∃ n : Nat, [x0, x1, x2, x3, x4, x5][j]? = some (.int .u64 (n : Int)) ∧ n < 18446744073709551616 := by
      intro j hj
      obtain ⟨z, h1, h2⟩ := hc j .u64 (by match j, hj with | 0, _ => rfl | 1, _ => rfl | 2, _ => rfl | 3, _ => rfl | 4, _ => rfl | 5, _ => rfl)
      have h3 := u64_bd h2
      exact ⟨z.toNat, by rw [Int.toNat_of_nonneg h3.1]; exact h1, by omega⟩
    obtain ⟨n0, h0, b0⟩ := key 0 (by decide)
    obtain ⟨n1, h1, b1⟩ := key 1 (by decide)
    obtain ⟨n2, h2, b2⟩ := key 2 (by decide)
    obtain ⟨n3, h3, b3⟩ := key 3 (by decide)
    obtain ⟨n4, h4, b4⟩ := key 4 (by decide)
    obtain ⟨n5, h5, b5⟩ := key 5 (by decide)
    simp at h0 h1 h2 h3 h4 h5
    subst h0 h1 h2 h3 h4 h5
    refine ⟨fun i => [n0, n1, n2, n3, n4, n5].getD i 0, rfl, fun i hi => ?_⟩
    match i, hi with
    | 0, _ => exact b0
    | 1, _ => exact b1
    | 2, _ => exact b2
    | 3, _ => exact b3
    | 4, _ => exact b4
    | 5, _ => exact b5
end Rl
end Go.Proofs.YtkhdamjjbjmeaaaDoor
