/-
  bits.RotateLeft64 over words. Own work.
-/
import Derived.Test.YtjfpbponjhpdhaaDoorKw
import Derived.Test.YtjfpbponjhpdhaaDoorRows
namespace Go.Proofs.YtjfpbponjhpdhaaDoor
open Go.RowKit
set_option linter.unusedVariables false
namespace Kc
theorem wrap_nn (k : Int) (h0 : 0 ≤ k) (h1 : k < 18446744073709551616) : IntKind.u64.wrap k = k := by simp [IntKind.wrap, IntKind.bits, IntKind.signed]; omega
theorem rot_is (x : Wd64) (s : Nat) (hs0 : 0 < s) (hs : s < 64) (w : World) :
    Calls Tryd.prog 98 #[.int .u64 (W x), .int .i64 s] w fun e w' => e = .returned (.int .u64 (W (rotl x s))) ∧ w = w' := by
  have h63 : bits BinOp.and .u64 (s : Int) 63 = (s : Int) := by
    rw [show (63 : Int) = ((63 : Nat) : Int) from rfl, u64_and_nat _ _ (by omega) (by decide)]
    have : s &&& 63 = s := by rw [show (63 : Nat) = 2 ^ 6 - 1 from rfl, Nat.and_two_pow_sub_one_eq_mod]; omega
    rw [this]
  have hsi : (s : Int) < 64 := by omega
  have hsi0 : (0 : Int) < s := by omega
  have hb := W_bd x
  have hb0 := hb.1
  have hb1 := hb.2
  clear hb
  go_enter Tryd.func98, Tryd.ntmps98
  go_wp2_with fail
  go_ret
  refine ⟨?_, rfl⟩
  show Ending.returned (.int .u64 (bits BinOp.or .u64 (IntKind.u64.wrap (W x * 2 ^ s)) (W x / 2 ^ (64 - s)))) = _
  rw [show IntKind.u64.wrap (W x * 2 ^ s) = W (x <<< s) from by rw [show IntKind.u64.wrap (W x * 2 ^ s) = W x * 2 ^ s % 18446744073709551616 from by simp [IntKind.wrap, IntKind.bits, IntKind.signed]]; exact W_shl x s hs, W_shr, W_or, rotl_is x s hs0 hs]
end Kc
end Go.Proofs.YtjfpbponjhpdhaaDoor
