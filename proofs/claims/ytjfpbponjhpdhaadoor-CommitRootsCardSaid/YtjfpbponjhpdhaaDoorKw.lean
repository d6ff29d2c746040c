/-
  Words of 64 bits in the walk: each value is 'W x'. Own work.
-/
import Derived.Test.YtjfpbponjhpdhaaDoorKec
import Derived.Test.YtjfpbponjhpdhaaDoorRow
import Derived.Laws.BitsAllLaws
import Derived.WalkKit
import Derived.Outline
import Derived.Lib.Hide
namespace Go.Proofs.YtjfpbponjhpdhaaDoor
open Go.RowKit
set_option linter.unusedVariables false
namespace Kc
/-- A word as Go's number. -/
def W (x : Wd64) : Int := (x.toNat : Int)
theorem W_bd (x : Wd64) : 0 ≤ W x ∧ W x < 18446744073709551616 := by have := x.isLt; unfold W; omega
theorem W_inj {x y : Wd64} (h : W x = W y) : x = y := by unfold W at h; exact BitVec.eq_of_toNat_eq (by omega)
theorem W_xor (x y : Wd64) : bits .xor .u64 (W x) (W y) = W (x ^^^ y) := by
  unfold W; rw [u64_xor_nat _ _ x.isLt y.isLt, BitVec.toNat_xor]
theorem W_and (x y : Wd64) : bits .and .u64 (W x) (W y) = W (x &&& y) := by
  unfold W; rw [u64_and_nat _ _ x.isLt y.isLt, BitVec.toNat_and]
theorem W_or (x y : Wd64) : bits .or .u64 (W x) (W y) = W (x ||| y) := by
  unfold W; rw [u64_or_nat _ _ x.isLt y.isLt, BitVec.toNat_or]
theorem W_not (x : Wd64) : 18446744073709551615 - W x = W (~~~x) := by
  unfold W; rw [BitVec.toNat_not]; have := x.isLt; omega
theorem W_zero : W 0#64 = 0 := rfl
theorem W_shl (x : Wd64) (s : Nat) (hs : s < 64) : W x * 2 ^ s % 18446744073709551616 = W (x <<< s) := by
  unfold W
  rw [BitVec.toNat_shiftLeft, Nat.shiftLeft_eq]
  have : ((x.toNat : Int) * 2 ^ s) = ((x.toNat * 2 ^ s : Nat) : Int) := by rw [Int.natCast_mul, Int.natCast_pow]; rfl
  rw [this]; rfl
theorem W_shr (x : Wd64) (s : Nat) : W x / 2 ^ s = W (x >>> s) := by
  unfold W
  rw [BitVec.toNat_ushiftRight, Nat.shiftRight_eq_div_pow, Int.natCast_ediv, Int.natCast_pow]; rfl
theorem rotl_is (x : Wd64) (s : Nat) (h0 : 0 < s) (hs : s < 64) : (x <<< s) ||| (x >>> (64 - s)) = rotl x s := by
  apply BitVec.eq_of_getLsbD_eq
  intro i hi
  rw [rotl_bit _ _ _ hi, BitVec.getLsbD_or, BitVec.getLsbD_shiftLeft, BitVec.getLsbD_ushiftRight, decide_eq_true hi]
  by_cases h : i < s
  · rw [decide_eq_true h]
    have e : 64 - s + i = (i + 64 - s % 64) % 64 := by omega
    rw [e]; simp
  · rw [decide_eq_false h]
    have e : (i + 64 - s % 64) % 64 = i - s := by omega
    rw [e, BitVec.getLsbD_of_ge x (64 - s + i) (by omega)]; simp
end Kc
end Go.Proofs.YtjfpbponjhpdhaaDoor
