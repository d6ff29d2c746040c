/-
  Layer 1: the contracts of the closure of WordLaws. Own work.
-/
import Derived.Test.YtebfecnpkifgeaaWord2
namespace Go.Proofs.Ytebfecnpkifgeaa
open Go.RowKit
set_option linter.unusedVariables false
set_option maxHeartbeats 400000 in
theorem do_add (a b : Int) (w : World) (ha : U.Ok a) (hb : U.Ok b) :
    Calls Try.prog 12 #[.int .i64 1, .int .u64 a, .int .u64 b] w fun e w' => e = .returned (.int .u64 (U.add a b)) ∧ w = w' := by
  obtain ⟨a0, a1⟩ := ha
  obtain ⟨b0, b1⟩ := hb
  go_enter Try.func12, Try.ntmps12
  go_wp2
  go_ret
  exact ⟨ret_int (by unfold U.add; rw [IntKind.wrap_u64]), rfl⟩

set_option maxHeartbeats 400000 in
theorem do_sub (a b : Int) (w : World) (ha : U.Ok a) (hb : U.Ok b) :
    Calls Try.prog 12 #[.int .i64 2, .int .u64 a, .int .u64 b] w fun e w' => e = .returned (.int .u64 (U.sub a b)) ∧ w = w' := by
  obtain ⟨a0, a1⟩ := ha
  obtain ⟨b0, b1⟩ := hb
  go_enter Try.func12, Try.ntmps12
  go_wp2
  go_ret
  exact ⟨ret_int (by unfold U.sub; rw [IntKind.wrap_u64, IntKind.wrap_u64]; omega), rfl⟩

set_option maxHeartbeats 400000 in
theorem do_mul (a b : Int) (w : World) (ha : U.Ok a) (hb : U.Ok b) :
    Calls Try.prog 12 #[.int .i64 3, .int .u64 a, .int .u64 b] w fun e w' => e = .returned (.int .u64 (U.mul a b)) ∧ w = w' := by
  obtain ⟨a0, a1⟩ := ha
  obtain ⟨b0, b1⟩ := hb
  go_enter Try.func12, Try.ntmps12
  go_wp2
  go_ret
  exact ⟨ret_int (by unfold U.mul; rw [IntKind.wrap_u64]), rfl⟩

set_option maxHeartbeats 400000 in
theorem do_div (a b : Int) (w : World) (ha : U.Ok a) (hb : U.Ok b) :
    Calls Try.prog 12 #[.int .i64 4, .int .u64 a, .int .u64 b] w fun e w' => e = .returned (.int .u64 (U.div a b)) ∧ w = w' := by
  obtain ⟨a0, a1⟩ := ha
  obtain ⟨b0, b1⟩ := hb
  by_cases h : b = 0
  · subst h
    go_enter Try.func12, Try.ntmps12
    go_wp2
    go_ret
    exact ⟨ret_int (rfl), rfl⟩
  · have hp : 1 ≤ b := by omega
    go_enter Try.func12, Try.ntmps12
    go_wp2
    go_ret
    exact ⟨ret_int (by unfold U.div; rw [if_neg h]), rfl⟩

set_option maxHeartbeats 400000 in
theorem do_mod (a b : Int) (w : World) (ha : U.Ok a) (hb : U.Ok b) :
    Calls Try.prog 12 #[.int .i64 6, .int .u64 a, .int .u64 b] w fun e w' => e = .returned (.int .u64 (U.mod a b)) ∧ w = w' := by
  obtain ⟨a0, a1⟩ := ha
  obtain ⟨b0, b1⟩ := hb
  by_cases h : b = 0
  · subst h
    go_enter Try.func12, Try.ntmps12
    go_wp2
    go_ret
    exact ⟨ret_int (rfl), rfl⟩
  · have hp : 1 ≤ b := by omega
    go_enter Try.func12, Try.ntmps12
    go_wp2
    go_ret
    exact ⟨ret_int (by unfold U.mod; rw [if_neg h]), rfl⟩

set_option maxHeartbeats 400000 in
theorem do_lt (a b : Int) (w : World) (ha : U.Ok a) (hb : U.Ok b) :
    Calls Try.prog 12 #[.int .i64 16, .int .u64 a, .int .u64 b] w fun e w' => e = .returned (.int .u64 (U.lt a b)) ∧ w = w' := by
  obtain ⟨a0, a1⟩ := ha
  obtain ⟨b0, b1⟩ := hb
  by_cases h : a < b
  · have hd : decide (a < b) = true := by simpa using h
    go_enter Try.func12, Try.ntmps12
    go_wp2
    go_ret
    exact ⟨ret_int (by simp [U.lt, U.b2, h]), rfl⟩
  · have hd : decide (a < b) = false := by simpa using h
    go_enter Try.func12, Try.ntmps12
    go_wp2
    go_ret
    exact ⟨ret_int (by simp [U.lt, U.b2, h]), rfl⟩

set_option maxHeartbeats 400000 in
theorem do_gt (a b : Int) (w : World) (ha : U.Ok a) (hb : U.Ok b) :
    Calls Try.prog 12 #[.int .i64 17, .int .u64 a, .int .u64 b] w fun e w' => e = .returned (.int .u64 (U.gt a b)) ∧ w = w' := by
  obtain ⟨a0, a1⟩ := ha
  obtain ⟨b0, b1⟩ := hb
  by_cases h : b < a
  · have hd : decide (b < a) = true := by simpa using h
    go_enter Try.func12, Try.ntmps12
    go_wp2
    go_ret
    exact ⟨ret_int (by simp [U.gt, U.b2, h]), rfl⟩
  · have hd : decide (b < a) = false := by simpa using h
    go_enter Try.func12, Try.ntmps12
    go_wp2
    go_ret
    exact ⟨ret_int (by simp [U.gt, U.b2, h]), rfl⟩

set_option maxHeartbeats 400000 in
theorem do_slt (a b : Int) (w : World) (ha : U.Ok a) (hb : U.Ok b) :
    Calls Try.prog 12 #[.int .i64 18, .int .u64 a, .int .u64 b] w fun e w' => e = .returned (.int .u64 (U.slt a b)) ∧ w = w' := by
  obtain ⟨a0, a1⟩ := ha
  obtain ⟨b0, b1⟩ := hb
  have e1 := U.wrap64_sg a ⟨a0, a1⟩
  have e2 := U.wrap64_sg b ⟨b0, b1⟩
  by_cases h : U.sg a < U.sg b
  · have hd : decide (U.sg a < U.sg b) = true := by simpa using h
    go_enter Try.func12, Try.ntmps12
    go_wp2
    go_ret
    exact ⟨ret_int (by simp [U.slt, U.b2, h]), rfl⟩
  · have hd : decide (U.sg a < U.sg b) = false := by simpa using h
    go_enter Try.func12, Try.ntmps12
    go_wp2
    go_ret
    exact ⟨ret_int (by simp [U.slt, U.b2, h]), rfl⟩

set_option maxHeartbeats 400000 in
theorem do_sgt (a b : Int) (w : World) (ha : U.Ok a) (hb : U.Ok b) :
    Calls Try.prog 12 #[.int .i64 19, .int .u64 a, .int .u64 b] w fun e w' => e = .returned (.int .u64 (U.sgt a b)) ∧ w = w' := by
  obtain ⟨a0, a1⟩ := ha
  obtain ⟨b0, b1⟩ := hb
  have e1 := U.wrap64_sg a ⟨a0, a1⟩
  have e2 := U.wrap64_sg b ⟨b0, b1⟩
  by_cases h : U.sg b < U.sg a
  · have hd : decide (U.sg b < U.sg a) = true := by simpa using h
    go_enter Try.func12, Try.ntmps12
    go_wp2
    go_ret
    exact ⟨ret_int (by simp [U.sgt, U.b2, h]), rfl⟩
  · have hd : decide (U.sg b < U.sg a) = false := by simpa using h
    go_enter Try.func12, Try.ntmps12
    go_wp2
    go_ret
    exact ⟨ret_int (by simp [U.sgt, U.b2, h]), rfl⟩

set_option maxHeartbeats 400000 in
theorem do_eq (a b : Int) (w : World) (ha : U.Ok a) (hb : U.Ok b) :
    Calls Try.prog 12 #[.int .i64 20, .int .u64 a, .int .u64 b] w fun e w' => e = .returned (.int .u64 (U.eq a b)) ∧ w = w' := by
  obtain ⟨a0, a1⟩ := ha
  obtain ⟨b0, b1⟩ := hb
  by_cases h : a = b
  · have hd : (a == b) = true := by simpa using h
    go_enter Try.func12, Try.ntmps12
    go_wp2
    go_ret
    exact ⟨ret_int (by simp [U.eq, U.b2, h]), rfl⟩
  · have hd : (a == b) = false := by simpa using h
    go_enter Try.func12, Try.ntmps12
    go_wp2
    go_ret
    exact ⟨ret_int (by simp [U.eq, U.b2, h]), rfl⟩

set_option maxHeartbeats 400000 in
theorem do_xor (a b : Int) (w : World) (ha : U.Ok a) (hb : U.Ok b) :
    Calls Try.prog 12 #[.int .i64 24, .int .u64 a, .int .u64 b] w fun e w' => e = .returned (.int .u64 (U.xor a b)) ∧ w = w' := by
  obtain ⟨a0, a1⟩ := ha
  obtain ⟨b0, b1⟩ := hb
  go_enter Try.func12, Try.ntmps12
  go_wp2
  go_ret
  exact ⟨ret_int (by unfold U.xor; first | rfl | exact u64_xor a b a0 (by omega) b0 (by omega)), rfl⟩

set_option maxHeartbeats 400000 in
theorem do_not (a b : Int) (w : World) (ha : U.Ok a) (hb : U.Ok b) :
    Calls Try.prog 12 #[.int .i64 25, .int .u64 a, .int .u64 b] w fun e w' => e = .returned (.int .u64 (U.not a)) ∧ w = w' := by
  obtain ⟨a0, a1⟩ := ha
  obtain ⟨b0, b1⟩ := hb
  go_enter Try.func12, Try.ntmps12
  go_wp2
  go_ret
  exact ⟨ret_int (by unfold U.not; rw [u64_xor a 18446744073709551615 a0 (by omega) (by omega) (by omega)]; have h := Bt.xor_ones a.toNat (by omega); simp at h ⊢; omega), rfl⟩

set_option maxHeartbeats 400000 in
theorem do_shl (a b : Int) (w : World) (ha : U.Ok a) (hb : U.Ok b) :
    Calls Try.prog 12 #[.int .i64 13, .int .u64 a, .int .u64 b] w fun e w' => e = .returned (.int .u64 (U.shl a b)) ∧ w = w' := by
  obtain ⟨a0, a1⟩ := ha
  obtain ⟨b0, b1⟩ := hb
  have hm : (0 : Int) < 2 ^ min a.toNat 64 := U.p2 _
  go_enter Try.func12, Try.ntmps12
  go_wp2
  go_ret
  exact ⟨ret_int (by unfold U.shl; rw [IntKind.wrap_u64]), rfl⟩

set_option maxHeartbeats 400000 in
theorem do_sar (a b : Int) (w : World) (ha : U.Ok a) (hb : U.Ok b) :
    Calls Try.prog 12 #[.int .i64 15, .int .u64 a, .int .u64 b] w fun e w' => e = .returned (.int .u64 (U.sar a b)) ∧ w = w' := by
  obtain ⟨a0, a1⟩ := ha
  obtain ⟨b0, b1⟩ := hb
  have hm : (0 : Int) < 2 ^ min a.toNat 64 := U.p2 _
  have e2 := U.wrap64_sg b ⟨b0, b1⟩
  go_enter Try.func12, Try.ntmps12
  go_wp2
  go_ret
  exact ⟨ret_int (by unfold U.sar; rw [IntKind.wrap_u64]), rfl⟩

set_option maxHeartbeats 400000 in
theorem do_sext (a b : Int) (w : World) (ha : U.Ok a) (hb : U.Ok b) :
    Calls Try.prog 12 #[.int .i64 11, .int .u64 a, .int .u64 b] w fun e w' => e = .returned (.int .u64 (U.sext a b)) ∧ w = w' := by
  obtain ⟨a0, a1⟩ := ha
  obtain ⟨b0, b1⟩ := hb
  by_cases h : 7 ≤ a
  · skip
    go_enter Try.func12, Try.ntmps12
    go_wp2
    go_ret
    exact ⟨ret_int (by unfold U.sext; rw [if_pos (by omega)]), rfl⟩
  · have hm : (0 : Int) < 2 ^ (56 - 8 * a).toNat := U.p2 _
    have e2 := U.wrap64_sg _ (U.mulp_ok b (56 - 8 * a).toNat)
    go_enter Try.func12, Try.ntmps12
    go_wp2
    go_ret
    exact ⟨ret_int (by unfold U.sext; rw [if_neg (by omega), IntKind.wrap_u64, IntKind.wrap_u64, e2]), rfl⟩

set_option maxHeartbeats 400000 in
theorem do_sdiv (a b : Int) (w : World) (ha : U.Ok a) (hb : U.Ok b) :
    Calls Try.prog 12 #[.int .i64 5, .int .u64 a, .int .u64 b] w fun e w' => e = .returned (.int .u64 (U.sdiv a b)) ∧ w = w' := by
  obtain ⟨a0, a1⟩ := ha
  obtain ⟨b0, b1⟩ := hb
  have e1 := U.wrap64_sg a ⟨a0, a1⟩
  have e2 := U.wrap64_sg b ⟨b0, b1⟩
  by_cases h : b = 0
  · subst h
    go_enter Try.func12, Try.ntmps12
    go_wp2
    go_ret
    exact ⟨ret_int (rfl), rfl⟩
  · have hz : U.sg b ≠ 0 := U.sg_ne h ⟨b0, b1⟩
    go_enter Try.func12, Try.ntmps12
    go_wp2
    go_ret
    exact ⟨ret_int (by unfold U.sdiv; rw [if_neg h, IntKind.wrap_u64]; unfold wrap64; omega), rfl⟩

set_option maxHeartbeats 400000 in
theorem do_smod (a b : Int) (w : World) (ha : U.Ok a) (hb : U.Ok b) :
    Calls Try.prog 12 #[.int .i64 7, .int .u64 a, .int .u64 b] w fun e w' => e = .returned (.int .u64 (U.smod a b)) ∧ w = w' := by
  obtain ⟨a0, a1⟩ := ha
  obtain ⟨b0, b1⟩ := hb
  have e1 := U.wrap64_sg a ⟨a0, a1⟩
  have e2 := U.wrap64_sg b ⟨b0, b1⟩
  by_cases h : b = 0
  · subst h
    go_enter Try.func12, Try.ntmps12
    go_wp2
    go_ret
    exact ⟨ret_int (rfl), rfl⟩
  · have hz : U.sg b ≠ 0 := U.sg_ne h ⟨b0, b1⟩
    go_enter Try.func12, Try.ntmps12
    go_wp2
    go_ret
    exact ⟨ret_int (by unfold U.smod; rw [if_neg h, IntKind.wrap_u64]), rfl⟩
end Go.Proofs.Ytebfecnpkifgeaa
