/-
  An array of integers that comes in by value. Own work.
-/
import Derived.Test.YtjfpbponjhpdhaaDoorTab
import Derived.OpenShut
import Derived.WideShapes
namespace Go.Proofs.YtjfpbponjhpdhaaDoor
open Go.ChangeShapes Go.WideShapes Go.RowKit
set_option linter.unusedVariables false
namespace Kc
section
variable {H : Type} {enc : TypeId × Value → H} {P : Program} {w : World} {r : Reach} {base base' : Nat} {spare : Nat → Bool} {held : Bool}
theorem arr_ints {t e : TypeId} {n : Nat} {k : IntKind} {v : Value} {d : DataW H} {ps : List MemPlace} (ht : P.underlying t = some (.array n e)) (he : P.underlying e = some (.int k)) (hC : P.cellsOf e = 1) (hn : P.cellsOf t = n)
    (hok : Value.okWide P w r base t v) (h : DataW.Trod enc P w base' spare held t v d ps) : ∃ f : Nat → Int, v = .agg (tab n fun i => .int k (f i)) ∧ ∀ i, i < n → (Lit.int k (f i)).wf = true := by
  simp only [Value.okWide, ht] at hok
  obtain ⟨cs, rfl, hsz, _⟩ := hok
  rw [hn] at hsz
  obtain ⟨fuel, hf⟩ := h
  obtain ⟨xs, m, _, _, hlen, hx, hel⟩ := DataW.trod_array ht (by simpa [Value.cells] using hf)
  have key : ∀ i, i < n → ∃ z, cs[i]? = some (.int k z) ∧ (Lit.int k z).wf = true := by
    intro i hi
    have e := hel i hi
    rw [hC, Nat.mul_one, List.getElem?_eq_getElem (by omega)] at e
    obtain ⟨z, e1, _, e3⟩ := DataW.trod_int he e
    refine ⟨z, ?_, e3⟩
    have h9 : ((cs.toList.drop i).take 1)[0]? = some (.int k z) := by rw [e1]; rfl
    simpa using h9
  refine ⟨fun i => match cs[i]? with | some (.int _ z) => z | _ => 0, ?_, fun i hi => ?_⟩
  · congr 1
    apply Array.ext_getElem?
    intro i
    by_cases hi : i < n
    · obtain ⟨z, hz, _⟩ := key i hi
      rw [tab_at _ hi]; simp only [hz]
    · rw [tab_out _ (by omega), Array.getElem?_eq_none (by omega)]
  · obtain ⟨z, hz, hw⟩ := key i hi
    simp only [hz]; exact hw
end
def wof (z : Int) : Wd64 := BitVec.ofInt 64 z
def bof (z : Int) : Bt := BitVec.ofInt 8 z
theorem W_wof {z : Int} (h0 : 0 ≤ z) (h1 : z < 18446744073709551616) : W (wof z) = z := by
  unfold W wof; rw [BitVec.toNat_ofInt]; omega
theorem Bv_bof {z : Int} (h0 : 0 ≤ z) (h1 : z < 256) : Bv (bof z) = z := by
  unfold Bv bof; rw [BitVec.toNat_ofInt]; omega
theorem wf_u64 {z : Int} (h : (Lit.int .u64 z).wf = true) : 0 ≤ z ∧ z < 18446744073709551616 := by
  have := bounds_u64 h; omega
theorem wf_u8 {z : Int} (h : (Lit.int .u8 z).wf = true) : 0 ≤ z ∧ z < 256 := by
  have := bounds_u8 h; omega
theorem words_of {f : Nat → Int} (h : ∀ i, i < 25 → (Lit.int .u64 (f i)).wf = true) : tab 25 (fun i => .int .u64 (f i)) = words fun i => wof (f i) :=
  tab_cong fun i hi => by show Value.int .u64 (f i) = .int .u64 (W (wof (f i))); rw [W_wof (wf_u64 (h i hi)).1 (wf_u64 (h i hi)).2]
theorem bytes_of {n : Nat} {f : Nat → Int} (h : ∀ i, i < n → (Lit.int .u8 (f i)).wf = true) : tab n (fun i => .int .u8 (f i)) = tab n fun i => bv (bof (f i)) :=
  tab_cong fun i hi => by show Value.int .u8 (f i) = .int .u8 (Bv (bof (f i))); rw [Bv_bof (wf_u8 (h i hi)).1 (wf_u8 (h i hi)).2]
end Kc
end Go.Proofs.YtjfpbponjhpdhaaDoor
