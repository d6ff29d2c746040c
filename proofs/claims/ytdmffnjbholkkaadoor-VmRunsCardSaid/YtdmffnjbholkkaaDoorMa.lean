/-
  merkle: at, check, isPlace. Own work.
-/
import Derived.Test.YtdmffnjbholkkaaDoorMs
import Derived.Test.YtdmffnjbholkkaaDoorErr
import Derived.IntWalk
import Derived.Outline
namespace Go.Proofs.YtdmffnjbholkkaaDoor
open Go.RowKit
set_option linter.unusedVariables false
namespace Mk
open Kc
/-- A block of one digest. -/
theorem put_new (w : World) (x : Hx) (zh : Array Value) (hz : (tab 32 fun _ => bv 0#8) = zh) : IsTab (w.alloc (.cells zh 39)) w.heap.size 39 32 fun _ => bv 0#8 := by
  rw [← hz]; exact IsTab.new w _ 32 _
def errV (n : Int) : Value := if n = 0 then .nilIface else .iface 62 (.int .i64 n)
/-- What is wrong with a tree. -/
def wrong (d : Int) (n : Nat) : Int := if d < 0 ∨ 16 < d then 2 else if (2 : Int) ^ d.toNat < n then 5 else 0
end Mk
end Go.Proofs.YtdmffnjbholkkaaDoor
