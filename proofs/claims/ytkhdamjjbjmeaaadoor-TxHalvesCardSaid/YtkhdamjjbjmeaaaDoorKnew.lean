/-
  keccak.New, (*Hasher).Add. Own work.
-/
import Derived.Test.YtkhdamjjbjmeaaaDoorKhs
import Derived.Test.YtkhdamjjbjmeaaaDoorKab
import Derived.RegionTactic
import Derived.IntWalk
import Derived.StillTailTactics
namespace Go.Proofs.YtkhdamjjbjmeaaaDoor
open Go.RowKit
set_option linter.unusedVariables false
namespace Kc
theorem zeroHs (w : World) : (zeroValue 74).run Tryd.prog w = .ok (.agg (tab 162 (hv (fun _ => 0#64) (fun _ => 0#8) 0))) w := by kernel_rfl
end Kc
end Go.Proofs.YtkhdamjjbjmeaaaDoor
