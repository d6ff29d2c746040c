/-
  Walks of laws of layer 1. Own work.
-/
import Derived.Test.YtebfecnpkifgeaaWordF
import Derived.Test.YtebfecnpkifgeaaWord2
namespace Go.Proofs.Ytebfecnpkifgeaa
open Go.RowKit
set_option linter.unusedVariables false
namespace U
theorem shl_mul (a n : Int) (ha : Ok a) (hn : Ok n) : shl n a = mul a (exp 2 n) := by
  unfold shl mul exp
  rw [mulR]
  unfold Ok at hn
  by_cases h : n < 64
  · rw [show min n.toNat 64 = n.toNat by omega]
  · rw [show min n.toNat 64 = 64 by omega, show n.toNat = (n.toNat - 64) + 64 by omega, Int.pow_add, ← Int.mul_assoc]
    rw [show (2 : Int) ^ 64 = 18446744073709551616 by decide, Int.mul_emod_left, Int.mul_emod_left]
theorem sg_not (a : Int) (ha : Ok a) : sg (not a) = -1 - sg a := by
  unfold Ok at ha
  unfold sg not
  split <;> split <;> omega
theorem div_not (x d : Int) (hd : 0 < d) : (-1 - x) / d = -1 - x / d := by
  have h1 := Int.emod_add_mul_ediv x d
  have h2 := Int.emod_nonneg x (show d ≠ 0 by omega)
  have h3 := Int.emod_lt_of_pos x hd
  have e : -1 - x = (d - 1 - x % d) + (-1 - x / d) * d := by
    rw [Int.sub_mul, Int.neg_mul, Int.one_mul, Int.mul_comm (x / d) d]; omega
  rw [e, Int.add_mul_ediv_right _ _ (show d ≠ 0 by omega), Int.ediv_eq_zero_of_lt (by omega) (by omega), Int.zero_add]
theorem sar_not (a n : Int) (ha : Ok a) : sar n (not a) = not (sar n a) := by
  unfold sar
  rw [sg_not a ha, div_not _ _ (p2 _)]
  unfold not
  omega
theorem shr_div (a n : Int) (hn : Ok n) (h : n < 64) : shr n a = div a (exp 2 n) := by
  unfold Ok at hn
  unfold shr div exp
  rw [show min n.toNat 64 = n.toNat by omega]
  have h1 := p2 n.toNat
  have h2 : (2 : Int) ^ n.toNat ≤ 2 ^ 63 := by
    have : ((2 ^ n.toNat : Nat) : Int) ≤ ((2 ^ 63 : Nat) : Int) := by exact_mod_cast Nat.pow_le_pow_right (by decide) (by omega)
    simpa using this
  rw [show (2 : Int) ^ 63 = 9223372036854775808 by decide] at h2
  rw [Int.emod_eq_of_lt (by omega) (by omega), if_neg (by omega)]
def half (a : Int) : Int := a / 2
theorem half_ok {a : Int} (h : Ok a) : Ok (half a) := by unfold Ok half at *; omega
theorem sar_half (a n : Int) (ha : Ok a) : sar n (half a) = shr n (half a) := by
  unfold Ok at ha
  have h1 : sg (half a) = half a := by unfold sg half; split <;> omega
  unfold sar shr
  rw [h1]
  have h2 := Int.ediv_nonneg (show 0 ≤ half a by unfold half; omega) (Int.le_of_lt (p2 (min n.toNat 64)))
  have h3 := Int.ediv_le_self (2 ^ min n.toNat 64) (show 0 ≤ half a by unfold half; omega)
  unfold half at *
  omega
theorem shr_far (a n : Int) (ha : Ok a) (h : 64 ≤ n) : shr n a = 0 := by
  unfold Ok at ha
  unfold shr
  rw [show min n.toNat 64 = 64 by omega, show (2 : Int) ^ 64 = 18446744073709551616 by decide]
  omega
theorem shl_far (a n : Int) (h : 64 ≤ n) : shl n a = 0 := by
  unfold shl
  rw [show min n.toNat 64 = 64 by omega, show (2 : Int) ^ 64 = 18446744073709551616 by decide, Int.mul_emod_left]
end U
set_option maxRecDepth 100000 in
set_option maxHeartbeats 4000000 in
theorem shifts_near (a n : Int) (ha : U.Ok a) (hn : U.Ok n) (hlt : n < 64) (w : World) :
    Calls Try.prog 5 #[.int .u64 a, .int .u64 n] w fun e w' => e = .returned (.bool true) ∧ Below w.heap.size w w' := by
  have t0 : (U.shl n a == U.mul a (U.exp 2 n)) = true := by rw [beq_iff_eq]; exact U.shl_mul a n ha hn
  have t1 : (U.sar n (U.not a) == U.not (U.sar n a)) = true := by rw [beq_iff_eq]; exact U.sar_not a n ha
  have t2 : (U.shr n a == U.div a (U.exp 2 n)) = true := by rw [beq_iff_eq]; exact U.shr_div a n hn hlt
  have t3 : (U.sar n (U.half a) == U.shr n (U.half a)) = true := by rw [beq_iff_eq]; exact U.sar_half a n ha
  have eh : a / 2 = U.half a := rfl
  have a0 := ha.1
  have a1 := ha.2
  have n0 := hn.1
  have n1 := hn.2
  have hh := U.half_ok ha
  go_enter Try.func5, Try.ntmps5
  go_wp2_with fail
  refine (at_exp 2 n _ (by unfold U.Ok; decide) hn).mono ?_
  rintro e w' ⟨rfl, rfl⟩
  go_wp2_with fail
  refine (at_shl n a _ hn ha).mono ?_
  rintro e w' ⟨rfl, rfl⟩
  go_wp2_with fail
  refine (at_mul a (U.exp 2 n) _ ha (U.exp_ok (by unfold U.Ok; decide) hn)).mono ?_
  rintro e w' ⟨rfl, rfl⟩
  go_wp2_with fail
  refine (at_not a 0 _ ha (by unfold U.Ok; decide)).mono ?_
  rintro e w' ⟨rfl, rfl⟩
  go_wp2_with fail
  refine (at_sar n (U.not a) _ hn (U.not_ok ha)).mono ?_
  rintro e w' ⟨rfl, rfl⟩
  go_wp2_with fail
  refine (at_sar n a _ hn ha).mono ?_
  rintro e w' ⟨rfl, rfl⟩
  go_wp2_with fail
  refine (at_not (U.sar n a) 0 _ (U.sar_ok hn ha) (by unfold U.Ok; decide)).mono ?_
  rintro e w' ⟨rfl, rfl⟩
  go_wp2_with fail
  refine (at_shr n a _ hn ha).mono ?_
  rintro e w' ⟨rfl, rfl⟩
  go_wp2_with fail
  refine (at_div a (U.exp 2 n) _ ha (U.exp_ok (by unfold U.Ok; decide) hn)).mono ?_
  rintro e w' ⟨rfl, rfl⟩
  go_wp2_with fail
  refine (at_sar n (U.half a) _ hn hh).mono ?_
  rintro e w' ⟨rfl, rfl⟩
  go_wp2_with fail
  refine (at_shr n (U.half a) _ hn hh).mono ?_
  rintro e w' ⟨rfl, rfl⟩
  go_wp2_with fail
  refine (fixed_true _).mono ?_
  rintro e w' ⟨rfl, rfl⟩
  go_wp2_with fail
  go_ret
  exact ⟨rfl, Below.refl _ _⟩
set_option maxRecDepth 100000 in
set_option maxHeartbeats 4000000 in
theorem shifts_far (a n : Int) (ha : U.Ok a) (hn : U.Ok n) (hlt : ¬ n < 64) (w : World) :
    Calls Try.prog 5 #[.int .u64 a, .int .u64 n] w fun e w' => e = .returned (.bool true) ∧ Below w.heap.size w w' := by
  have t0 : (U.shl n a == U.mul a (U.exp 2 n)) = true := by rw [beq_iff_eq]; exact U.shl_mul a n ha hn
  have t1 : (U.sar n (U.not a) == U.not (U.sar n a)) = true := by rw [beq_iff_eq]; exact U.sar_not a n ha
  have t2 : (U.shl n a == 0) = true := by rw [beq_iff_eq]; exact U.shl_far a n (by omega)
  have t3 : (U.shr n a == 0) = true := by rw [beq_iff_eq]; exact U.shr_far a n ha (by omega)
  have t4 : (U.sar n (U.half a) == 0) = true := by rw [beq_iff_eq, U.sar_half a n ha]; exact U.shr_far _ n (U.half_ok ha) (by omega)
  have eh : a / 2 = U.half a := rfl
  have a0 := ha.1
  have a1 := ha.2
  have n0 := hn.1
  have n1 := hn.2
  have hh := U.half_ok ha
  go_enter Try.func5, Try.ntmps5
  go_wp2_with fail
  refine (at_exp 2 n _ (by unfold U.Ok; decide) hn).mono ?_
  rintro e w' ⟨rfl, rfl⟩
  go_wp2_with fail
  refine (at_shl n a _ hn ha).mono ?_
  rintro e w' ⟨rfl, rfl⟩
  go_wp2_with fail
  refine (at_mul a (U.exp 2 n) _ ha (U.exp_ok (by unfold U.Ok; decide) hn)).mono ?_
  rintro e w' ⟨rfl, rfl⟩
  go_wp2_with fail
  refine (at_not a 0 _ ha (by unfold U.Ok; decide)).mono ?_
  rintro e w' ⟨rfl, rfl⟩
  go_wp2_with fail
  refine (at_sar n (U.not a) _ hn (U.not_ok ha)).mono ?_
  rintro e w' ⟨rfl, rfl⟩
  go_wp2_with fail
  refine (at_sar n a _ hn ha).mono ?_
  rintro e w' ⟨rfl, rfl⟩
  go_wp2_with fail
  refine (at_not (U.sar n a) 0 _ (U.sar_ok hn ha) (by unfold U.Ok; decide)).mono ?_
  rintro e w' ⟨rfl, rfl⟩
  go_wp2_with fail
  refine (at_shl n a _ hn ha).mono ?_
  rintro e w' ⟨rfl, rfl⟩
  go_wp2_with fail
  refine (at_shr n a _ hn ha).mono ?_
  rintro e w' ⟨rfl, rfl⟩
  go_wp2_with fail
  refine (at_sar n (U.half a) _ hn hh).mono ?_
  rintro e w' ⟨rfl, rfl⟩
  go_wp2_with fail
  refine (fixed_true _).mono ?_
  rintro e w' ⟨rfl, rfl⟩
  go_wp2_with fail
  go_ret
  exact ⟨rfl, Below.refl _ _⟩
theorem wordShifts_walk (a n : Int) (wa : (Lit.int .u64 a).wf = true) (wn : (Lit.int .u64 n).wf = true) (w : World) :
    Calls Try.prog 5 #[.int .u64 a, .int .u64 n] w fun e w' => e = .returned (.bool true) ∧ Below w.heap.size w w' := by
  by_cases h : n < 64
  · exact shifts_near a n (bounds_u64 wa) (bounds_u64 wn) h w
  · exact shifts_far a n (bounds_u64 wa) (bounds_u64 wn) h w
end Go.Proofs.Ytebfecnpkifgeaa
