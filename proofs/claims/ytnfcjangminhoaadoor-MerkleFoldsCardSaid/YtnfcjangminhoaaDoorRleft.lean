/-
  mootref02.left. Own work.
-/
import Derived.Test.YtnfcjangminhoaaDoorTab
import Derived.IntWalk
namespace Go.Proofs.YtnfcjangminhoaaDoor
open Go.RowKit
set_option linter.unusedVariables false
namespace Kc
set_option maxHeartbeats 2000000 in
set_option maxRecDepth 100000 in
theorem left_is (x : Wd64) (s : Nat) (hs : s < 64) (w : World) :
    Calls Tryd.prog 51 #[.int .u64 (W x), .int .i64 s] w fun e w' => e = .returned (.int .u64 (W (rotl x s))) ∧ w = w' := by
  by_cases h0 : s = 0
  · subst h0
    go_enter Tryd.func51, Tryd.ntmps51
    go_wp2_with fail
    go_ret
    refine ⟨?_, rfl⟩
    rw [rotl_zero]
    rfl
  · have hsi : (s : Int) < 64 := by omega
    have hsi0 : (0 : Int) < s := by omega
    have htst : ((s : Int) % 64 == 0) = false := by
      have : ¬ ((s : Int) % 64 = 0) := by omega
      simpa using this
    go_enter Tryd.func51, Tryd.ntmps51
    go_wp2_with fail
    go_ret
    refine ⟨?_, rfl⟩
    show Ending.returned (.int .u64 (bits BinOp.or IntKind.u64 (IntKind.u64.wrap (W x * 2 ^ (s % 64))) (W x / 2 ^ (64 - s % 64)))) = _
    rw [Nat.mod_eq_of_lt hs, wr_shl x s hs, W_shr, W_or, rotl_is x s (by omega) hs]
end Kc
end Go.Proofs.YtnfcjangminhoaaDoor
