/-
  KeccakSponge for what comes in. Own work.
-/
import Derived.Test.YtdmbmilfclllaaaDoorKsg
import Derived.Test.YtdmbmilfclllaaaDoorSz
namespace Go.Proofs.YtdmbmilfclllaaaDoor
open Go.ChangeShapes Go.WideShapes Go.RowKit
set_option linter.unusedVariables false
theorem keccakSponge_walk {w : World} (a0 : Option Addr) (len0 cap0 : Nat) (z0 : List Int) (w0 : IsRow .u8 w a0 len0 cap0 z0) (s0 : cap0 ≤ 140737488351232) (ht : Laid.KTab w) :
    Calls Tryd.prog 3 #[.slice a0 len0 cap0] w fun e w' => e = .returned (.bool true) ∧ Below w.heap.size w w' := by
  obtain ⟨l, rfl, hB, hn, hc, _⟩ := bytes_row w0
  exact Kc.sponge_walk l a0 cap0 w ht hB hn hc (by omega)
end Go.Proofs.YtdmbmilfclllaaaDoor
