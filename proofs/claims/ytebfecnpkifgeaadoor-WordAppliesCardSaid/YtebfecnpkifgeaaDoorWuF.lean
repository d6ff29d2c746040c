/-
  The closed helper of layer 1's laws. Own work.
-/
import Derived.Test.YtebfecnpkifgeaaDoorWu
import Derived.Test.YtebfecnpkifgeaaDoorShelf
namespace Go.Proofs.YtebfecnpkifgeaaDoor
open Go.RowKit
set_option linter.unusedVariables false
set_option maxHeartbeats 800000 in
theorem apply_known (w : World) : Calls Tryd.prog 9 #[.int .i64 5, .int .u64 18446744073709551609, .int .u64 2, .int .u64 0] w fun e w' => e = .returned (.tuple #[.int .u64 18446744073709551613, .nilIface]) ∧ w = w' := by
  have e1 : wrap64 18446744073709551609 = -7 := by unfold wrap64; decide
  have e2 : wrap64 2 = 2 := by unfold wrap64; decide
  go_enter Tryd.func9, Tryd.ntmps9
  go_wp2
  go_ret2
  exact ⟨rfl, rfl⟩
set_option maxHeartbeats 800000 in
theorem apply_none (w : World) : Calls Tryd.prog 9 #[.int .i64 26, .int .u64 1, .int .u64 1, .int .u64 1] w fun e w' => e = .returned (.tuple #[.int .u64 0, .iface 22 (.int .i64 10)]) ∧ w = w' := by
  go_enter Tryd.func9, Tryd.ntmps9
  go_wp2
  go_ret2
  exact ⟨rfl, rfl⟩
theorem mul64_any (x y : Int) (w : World) (hx : U.Ok x) (hy : U.Ok y) :
    Calls Tryd.prog 29 #[.int .u64 x, .int .u64 y] w fun e w' => e = .returned (.tuple #[.int .u64 (x * y / 18446744073709551616), .int .u64 (x * y % 18446744073709551616)]) ∧ w = w' := by
  obtain ⟨x0, x1⟩ := hx
  obtain ⟨y0, y1⟩ := hy
  obtain ⟨a, rfl⟩ := Int.eq_ofNat_of_zero_le x0
  obtain ⟨b, rfl⟩ := Int.eq_ofNat_of_zero_le y0
  refine (Tryd.bits_Mul64 a b (by omega) (by omega) w).mono ?_
  rintro e w' ⟨rfl, rfl⟩
  exact ⟨by simp, rfl⟩
theorem wide_any (x y : Int) (w : World) (hx : U.Ok x) (hy : U.Ok y) :
    Calls Tryd.prog 14 #[.int .u64 x, .int .u64 y] w fun e w' => e = .returned (.tuple #[.int .u64 (x * y / 18446744073709551616), .int .u64 (x * y % 18446744073709551616)]) ∧ w = w' := by
  go_enter Tryd.func14, Tryd.ntmps14
  go_wp2_with fail
  refine (mul64_any x y _ hx hy).mono ?_
  rintro e w' ⟨rfl, rfl⟩
  go_wp2_with fail
  go_ret2
  exact ⟨rfl, rfl⟩
set_option maxHeartbeats 800000 in
theorem fixed_true (w : World) : Calls Tryd.prog 8 #[] w fun e w' => e = .returned (.bool true) ∧ w = w' := by
  go_enter Tryd.func8, Tryd.ntmps8
  go_wp2_with fail
  refine (apply_known _).mono ?_
  rintro e w' ⟨rfl, rfl⟩
  go_wp2_with fail
  refine (wide_any 9223372036854775808 6 _ (by unfold U.Ok; decide) (by unfold U.Ok; decide)).mono ?_
  rintro e w' ⟨rfl, rfl⟩
  rw [show (9223372036854775808 : Int) * 6 / 18446744073709551616 = 3 by decide, show (9223372036854775808 : Int) * 6 % 18446744073709551616 = 0 by decide]
  go_wp2_with fail
  refine (apply_none _).mono ?_
  rintro e w' ⟨rfl, rfl⟩
  go_wp2_with fail
  refine (Err.is_num _ _ _).mono ?_
  rintro e w' ⟨rfl, rfl⟩
  go_wp2_with fail
  go_ret
  exact ⟨rfl, rfl⟩
end Go.Proofs.YtebfecnpkifgeaaDoor
