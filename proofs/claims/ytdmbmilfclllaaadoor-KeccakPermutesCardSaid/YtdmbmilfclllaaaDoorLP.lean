/-
  KeccakPermutes for arrays as they come in. Own work.
-/
import Derived.Test.YtdmbmilfclllaaaDoorKlp
import Derived.Test.YtdmbmilfclllaaaDoorArr
namespace Go.Proofs.YtdmbmilfclllaaaDoor
open Go.ChangeShapes Go.WideShapes Go.RowKit
set_option linter.unusedVariables false
theorem keccakPermutes_walk {H : Type} {enc : TypeId × Value → H} {base base' : Nat} {spare : Nat → Bool} {held : Bool} {w : World} (v0 : Value) (d0 : DataW H) (p0 : List MemPlace) (v1 : Value) (d1 : DataW H) (p1 : List MemPlace)
    (ok0 : Value.okWide Tryd.prog w .any base 24 v0) (k0 : DataW.Trod enc Tryd.prog w base' spare held 24 v0 d0 p0) (ok1 : Value.okWide Tryd.prog w .any base 24 v1) (k1 : DataW.Trod enc Tryd.prog w base' spare held 24 v1 d1 p1) (ht : Laid.KTab w) :
    Calls Tryd.prog 6 #[v0, v1] w fun e w' => e = .returned (.bool true) ∧ Below w.heap.size w w' := by
  obtain ⟨f0, rfl, h0⟩ := Kc.arr_ints Kc.und25 Kc.undU64 (by kernel_rfl) (by kernel_rfl) ok0 k0
  obtain ⟨f1, rfl, h1⟩ := Kc.arr_ints Kc.und25 Kc.undU64 (by kernel_rfl) (by kernel_rfl) ok1 k1
  rw [Kc.words_of h0, Kc.words_of h1]
  exact Kc.permutes_walk _ _ w ht
end Go.Proofs.YtdmbmilfclllaaaDoor
