/-
  keccak.New, (*Hasher).Add. Own work.
-/
import Derived.Test.YtdmbmilfclllaaaDoorKhs
import Derived.Test.YtdmbmilfclllaaaDoorKab
import Derived.RegionTactic
import Derived.IntWalk
import Derived.StillTailTactics
namespace Go.Proofs.YtdmbmilfclllaaaDoor
open Go.RowKit
set_option linter.unusedVariables false
namespace Kc
theorem zeroHs (w : World) : (zeroValue 52).run Tryd.prog w = .ok (.agg (tab 162 (hv (fun _ => 0#64) (fun _ => 0#8) 0))) w := by kernel_rfl
set_option maxHeartbeats 4000000 in
set_option maxRecDepth 100000 in
theorem new_walk (w : World) :
    Calls Tryd.prog 11 #[] w fun e w' => e = .returned (.pointer (some ⟨w.heap.size, 0, none⟩)) ∧ IsTab w' w.heap.size 52 162 (hv (fun _ => 0#64) (fun _ => 0#8) 0) ∧ Below w.heap.size w w' ∧ w.heap.size < w'.heap.size := by
  have hz := zeroHs
  generalize hv (fun _ => 0#64) (fun _ => 0#8) 0 = g0 at *
  go_enter Tryd.func11, Tryd.ntmps11
  go_wp2_with fail
  go_outline
  go_ret
  exact ⟨rfl, IsTab.new w _ 162 _, (Below.refl _ _).alloc (Nat.le_refl _) _, by simp⟩
end Kc
end Go.Proofs.YtdmbmilfclllaaaDoor
