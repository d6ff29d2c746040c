/-
  KeccakApart for what comes in. Own work.
-/
import Derived.Test.YtdmbmilfclllaaaDoorKaw
import Derived.Test.YtdmbmilfclllaaaDoorLPc
namespace Go.Proofs.YtdmbmilfclllaaaDoor
open Go.ChangeShapes Go.WideShapes Go.RowKit
set_option linter.unusedVariables false
theorem keccakApart_walk {H : Type} {enc : TypeId × Value → H} {base base' : Nat} {held : Bool} {w : World} (v0 : Value) (d0 : DataW H) (p0 : List MemPlace) (v1 : Value) (d1 : DataW H) (p1 : List MemPlace)
    (ok0 : Value.okWide Tryd.prog w .any base 31 v0) (k0 : DataW.Trod enc Tryd.prog w base' (fun _ => true) held 31 v0 d0 p0) (ok1 : Value.okWide Tryd.prog w .any base 31 v1) (k1 : DataW.Trod enc Tryd.prog w base' (fun _ => true) held 31 v1 d1 p1)
    (ht : Laid.KTab w) (hb0 : Rows.uptoBulk d0 ≤ 1048576) (hb1 : Rows.uptoBulk d1 ≤ 1048576) :
    Calls Tryd.prog 4 #[v0, v1] w fun e w' => e = .returned (.bool true) ∧ Below w.heap.size w w' := by
  obtain ⟨A1, n1, c1, rfl⟩ := okWide_slice Kc.und31 ok0
  obtain ⟨A2, n2, c2, rfl⟩ := okWide_slice Kc.und31 ok1
  obtain ⟨l1, rfl, hL1, _, hc1, hm1, hk1⟩ := Kc.pieces_of Kc.und31 Kc.und22 Kc.undU8 Kc.cells22 Kc.cells5 k0
  obtain ⟨l2, rfl, hL2, _, hc2, hm2, hk2⟩ := Kc.pieces_of Kc.und31 Kc.und22 Kc.undU8 Kc.cells22 Kc.cells5 k1
  exact Kc.apart_walk l1 l2 A1 A2 c1 c2 w ht hL1 hL2 hc1 hc2 hm1 hm2 (by omega) (by omega)
end Go.Proofs.YtdmbmilfclllaaaDoor
