/-
  KeccakPieces for what comes in. Own work.
-/
import Derived.Test.YtdmbmilfclllaaaDoorKpc
namespace Go.Proofs.YtdmbmilfclllaaaDoor
open Go.ChangeShapes Go.WideShapes Go.RowKit
set_option linter.unusedVariables false
namespace Kc
theorem und31 : Tryd.prog.underlying 31 = some (.slice 22) := by kernel_rfl
theorem cells22 : Tryd.prog.cellsOf 22 = 1 := by kernel_rfl
theorem cells5 : Tryd.prog.cellsOf 5 = 1 := by kernel_rfl
end Kc
theorem keccakPieces_walk {H : Type} {enc : TypeId × Value → H} {base base' : Nat} {held : Bool} {w : World} (v0 : Value) (d0 : DataW H) (p0 : List MemPlace)
    (ok0 : Value.okWide Tryd.prog w .any base 31 v0) (k0 : DataW.Trod enc Tryd.prog w base' (fun _ => true) held 31 v0 d0 p0) (ht : Laid.KTab w) (hb : Rows.uptoBulk d0 ≤ 1048576) :
    Calls Tryd.prog 7 #[v0] w fun e w' => e = .returned (.bool true) ∧ Below w.heap.size w w' := by
  obtain ⟨A, len, cap, rfl⟩ := okWide_slice Kc.und31 ok0
  obtain ⟨ls, rfl, hL, hn, hc, hm, hk⟩ := Kc.pieces_of Kc.und31 Kc.und22 Kc.undU8 Kc.cells22 Kc.cells5 k0
  exact Kc.pieces_walk ls A cap w ht hL hn hc hm (by omega)
end Go.Proofs.YtdmbmilfclllaaaDoor
