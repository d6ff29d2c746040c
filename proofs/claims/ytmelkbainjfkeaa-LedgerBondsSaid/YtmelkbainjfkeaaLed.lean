/-
  Layer 18: the ledger's methods on a nil ledger, and its check. Own work.
-/
import Derived.Test.YtmelkbainjfkeaaRow
import Derived.Test.YtmelkbainjfkeaaErr
import Derived.Outline
namespace Go.Proofs.Ytmelkbainjfkeaa
open Go.RowKit
set_option linter.unusedVariables false
namespace Led
theorem check_nil (p : Int) (w : World) :
    Calls Try.prog 16 #[.pointer none, .int .i64 p] w fun e w' => e = .returned (.iface 38 (.int .i64 1)) ∧ w = w' := by
  go_enter Try.func16, Try.ntmps16
  go_wp2_with fail
  go_ret
  exact ⟨rfl, rfl⟩
theorem payIn_nil (p v : Int) (w : World) :
    Calls Try.prog 7 #[.pointer none, .int .i64 p, .int .u64 v] w fun e w' => e = .returned (.iface 38 (.int .i64 1)) ∧ w = w' := by
  go_enter Try.func7, Try.ntmps7
  go_wp2_with fail
  refine (check_nil _ _).mono ?_
  rintro e w' ⟨rfl, rfl⟩
  go_wp2_with fail
  go_ret
  exact ⟨rfl, rfl⟩
theorem payOut_nil (p v : Int) (w : World) :
    Calls Try.prog 12 #[.pointer none, .int .i64 p, .int .u64 v] w fun e w' => e = .returned (.iface 38 (.int .i64 1)) ∧ w = w' := by
  go_enter Try.func12, Try.ntmps12
  go_wp2_with fail
  refine (check_nil _ _).mono ?_
  rintro e w' ⟨rfl, rfl⟩
  go_wp2_with fail
  go_ret
  exact ⟨rfl, rfl⟩
theorem lock_nil (p v : Int) (w : World) :
    Calls Try.prog 8 #[.pointer none, .int .i64 p, .int .u64 v] w fun e w' => e = .returned (.tuple #[.int .i64 0, .iface 38 (.int .i64 1)]) ∧ w = w' := by
  go_enter Try.func8, Try.ntmps8
  go_wp2_with fail
  refine (check_nil _ _).mono ?_
  rintro e w' ⟨rfl, rfl⟩
  go_wp2_with fail
  go_ret2
  exact ⟨rfl, rfl⟩
theorem give_nil (n p : Int) (w : World) :
    Calls Try.prog 11 #[.pointer none, .int .i64 n, .int .i64 p] w fun e w' => e = .returned (.iface 38 (.int .i64 1)) ∧ w = w' := by
  go_enter Try.func11, Try.ntmps11
  go_wp2_with fail
  refine (check_nil _ _).mono ?_
  rintro e w' ⟨rfl, rfl⟩
  go_wp2_with fail
  go_ret
  exact ⟨rfl, rfl⟩
theorem balance_nil (p : Int) (w : World) :
    Calls Try.prog 9 #[.pointer none, .int .i64 p] w fun e w' => e = .returned (.tuple #[.int .u64 0, .iface 38 (.int .i64 1)]) ∧ w = w' := by
  go_enter Try.func9, Try.ntmps9
  go_wp2_with fail
  refine (check_nil _ _).mono ?_
  rintro e w' ⟨rfl, rfl⟩
  go_wp2_with fail
  go_ret2
  exact ⟨rfl, rfl⟩
theorem locked_nil (w : World) :
    Calls Try.prog 10 #[.pointer none] w fun e w' => e = .returned (.int .u64 0) ∧ w = w' := by
  go_enter Try.func10, Try.ntmps10
  go_wp2_with fail
  go_ret
  exact ⟨rfl, rfl⟩
theorem flows_nil (w : World) :
    Calls Try.prog 13 #[.pointer none] w fun e w' => e = .returned (.tuple #[.int .u64 0, .int .u64 0]) ∧ w = w' := by
  go_enter Try.func13, Try.ntmps13
  go_wp2_with fail
  go_ret2
  exact ⟨rfl, rfl⟩
end Led
end Go.Proofs.Ytmelkbainjfkeaa
