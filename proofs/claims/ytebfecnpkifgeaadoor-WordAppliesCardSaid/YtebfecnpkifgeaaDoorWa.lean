/-
  word.Apply, operation by operation. Own work.
-/
import Derived.Test.YtebfecnpkifgeaaDoorWr
namespace Go.Proofs.YtebfecnpkifgeaaDoor
open Go.RowKit
set_option linter.unusedVariables false
namespace W1
theorem ret_ok {k : IntKind} {a b : Int} {v : Value} (h : a = b) : Ending.returned (.tuple #[.int k a, v]) = .returned (.tuple #[.int k b, v]) := by rw [h]
set_option maxHeartbeats 400000 in
theorem app_add (a b c : Int) (w : World) (ha : U.Ok a) (hb : U.Ok b) :
    Calls Tryd.prog 9 #[.int .i64 1, .int .u64 a, .int .u64 b, .int .u64 c] w fun e w' => e = .returned (.tuple #[.int .u64 (U.add a b), .nilIface]) ∧ w = w' := by
  obtain ⟨a0, a1⟩ := ha
  obtain ⟨b0, b1⟩ := hb
  go_enter Tryd.func9, Tryd.ntmps9
  go_wp2
  go_ret2
  exact ⟨ret_ok (by unfold U.add; rw [IntKind.wrap_u64]), rfl⟩
set_option maxHeartbeats 400000 in
theorem app_sub (a b c : Int) (w : World) (ha : U.Ok a) (hb : U.Ok b) :
    Calls Tryd.prog 9 #[.int .i64 2, .int .u64 a, .int .u64 b, .int .u64 c] w fun e w' => e = .returned (.tuple #[.int .u64 (U.sub a b), .nilIface]) ∧ w = w' := by
  obtain ⟨a0, a1⟩ := ha
  obtain ⟨b0, b1⟩ := hb
  go_enter Tryd.func9, Tryd.ntmps9
  go_wp2
  go_ret2
  exact ⟨ret_ok (by unfold U.sub; rw [IntKind.wrap_u64, IntKind.wrap_u64]; omega), rfl⟩
set_option maxHeartbeats 400000 in
theorem app_mul (a b c : Int) (w : World) (ha : U.Ok a) (hb : U.Ok b) :
    Calls Tryd.prog 9 #[.int .i64 3, .int .u64 a, .int .u64 b, .int .u64 c] w fun e w' => e = .returned (.tuple #[.int .u64 (U.mul a b), .nilIface]) ∧ w = w' := by
  obtain ⟨a0, a1⟩ := ha
  obtain ⟨b0, b1⟩ := hb
  go_enter Tryd.func9, Tryd.ntmps9
  go_wp2
  go_ret2
  exact ⟨ret_ok (by unfold U.mul; rw [IntKind.wrap_u64]), rfl⟩
set_option maxHeartbeats 400000 in
theorem app_div (a b c : Int) (w : World) (ha : U.Ok a) (hb : U.Ok b) :
    Calls Tryd.prog 9 #[.int .i64 4, .int .u64 a, .int .u64 b, .int .u64 c] w fun e w' => e = .returned (.tuple #[.int .u64 (U.div a b), .nilIface]) ∧ w = w' := by
  obtain ⟨a0, a1⟩ := ha
  obtain ⟨b0, b1⟩ := hb
  by_cases h : b = 0
  · subst h
    go_enter Tryd.func9, Tryd.ntmps9
    go_wp2
    go_ret2
    exact ⟨ret_ok (rfl), rfl⟩
  · have hp : 1 ≤ b := by omega
    go_enter Tryd.func9, Tryd.ntmps9
    go_wp2
    go_ret2
    exact ⟨ret_ok (by unfold U.div; rw [if_neg h]), rfl⟩
set_option maxHeartbeats 400000 in
theorem app_mod (a b c : Int) (w : World) (ha : U.Ok a) (hb : U.Ok b) :
    Calls Tryd.prog 9 #[.int .i64 6, .int .u64 a, .int .u64 b, .int .u64 c] w fun e w' => e = .returned (.tuple #[.int .u64 (U.mod a b), .nilIface]) ∧ w = w' := by
  obtain ⟨a0, a1⟩ := ha
  obtain ⟨b0, b1⟩ := hb
  by_cases h : b = 0
  · subst h
    go_enter Tryd.func9, Tryd.ntmps9
    go_wp2
    go_ret2
    exact ⟨ret_ok (rfl), rfl⟩
  · have hp : 1 ≤ b := by omega
    go_enter Tryd.func9, Tryd.ntmps9
    go_wp2
    go_ret2
    exact ⟨ret_ok (by unfold U.mod; rw [if_neg h]), rfl⟩
set_option maxHeartbeats 400000 in
theorem app_lt (a b c : Int) (w : World) (ha : U.Ok a) (hb : U.Ok b) :
    Calls Tryd.prog 9 #[.int .i64 16, .int .u64 a, .int .u64 b, .int .u64 c] w fun e w' => e = .returned (.tuple #[.int .u64 (U.lt a b), .nilIface]) ∧ w = w' := by
  obtain ⟨a0, a1⟩ := ha
  obtain ⟨b0, b1⟩ := hb
  by_cases h : a < b
  · have hd : decide (a < b) = true := by simpa using h
    go_enter Tryd.func9, Tryd.ntmps9
    go_wp2
    go_ret2
    exact ⟨ret_ok (by simp [U.lt, U.b2, h]), rfl⟩
  · have hd : decide (a < b) = false := by simpa using h
    go_enter Tryd.func9, Tryd.ntmps9
    go_wp2
    go_ret2
    exact ⟨ret_ok (by simp [U.lt, U.b2, h]), rfl⟩
set_option maxHeartbeats 400000 in
theorem app_gt (a b c : Int) (w : World) (ha : U.Ok a) (hb : U.Ok b) :
    Calls Tryd.prog 9 #[.int .i64 17, .int .u64 a, .int .u64 b, .int .u64 c] w fun e w' => e = .returned (.tuple #[.int .u64 (U.gt a b), .nilIface]) ∧ w = w' := by
  obtain ⟨a0, a1⟩ := ha
  obtain ⟨b0, b1⟩ := hb
  by_cases h : b < a
  · have hd : decide (b < a) = true := by simpa using h
    go_enter Tryd.func9, Tryd.ntmps9
    go_wp2
    go_ret2
    exact ⟨ret_ok (by simp [U.gt, U.b2, h]), rfl⟩
  · have hd : decide (b < a) = false := by simpa using h
    go_enter Tryd.func9, Tryd.ntmps9
    go_wp2
    go_ret2
    exact ⟨ret_ok (by simp [U.gt, U.b2, h]), rfl⟩
set_option maxHeartbeats 400000 in
theorem app_slt (a b c : Int) (w : World) (ha : U.Ok a) (hb : U.Ok b) :
    Calls Tryd.prog 9 #[.int .i64 18, .int .u64 a, .int .u64 b, .int .u64 c] w fun e w' => e = .returned (.tuple #[.int .u64 (U.slt a b), .nilIface]) ∧ w = w' := by
  obtain ⟨a0, a1⟩ := ha
  obtain ⟨b0, b1⟩ := hb
  have e1 := U.wrap64_sg a ⟨a0, a1⟩
  have e2 := U.wrap64_sg b ⟨b0, b1⟩
  by_cases h : U.sg a < U.sg b
  · have hd : decide (U.sg a < U.sg b) = true := by simpa using h
    go_enter Tryd.func9, Tryd.ntmps9
    go_wp2
    go_ret2
    exact ⟨ret_ok (by simp [U.slt, U.b2, h]), rfl⟩
  · have hd : decide (U.sg a < U.sg b) = false := by simpa using h
    go_enter Tryd.func9, Tryd.ntmps9
    go_wp2
    go_ret2
    exact ⟨ret_ok (by simp [U.slt, U.b2, h]), rfl⟩
set_option maxHeartbeats 400000 in
theorem app_sgt (a b c : Int) (w : World) (ha : U.Ok a) (hb : U.Ok b) :
    Calls Tryd.prog 9 #[.int .i64 19, .int .u64 a, .int .u64 b, .int .u64 c] w fun e w' => e = .returned (.tuple #[.int .u64 (U.sgt a b), .nilIface]) ∧ w = w' := by
  obtain ⟨a0, a1⟩ := ha
  obtain ⟨b0, b1⟩ := hb
  have e1 := U.wrap64_sg a ⟨a0, a1⟩
  have e2 := U.wrap64_sg b ⟨b0, b1⟩
  by_cases h : U.sg b < U.sg a
  · have hd : decide (U.sg b < U.sg a) = true := by simpa using h
    go_enter Tryd.func9, Tryd.ntmps9
    go_wp2
    go_ret2
    exact ⟨ret_ok (by simp [U.sgt, U.b2, h]), rfl⟩
  · have hd : decide (U.sg b < U.sg a) = false := by simpa using h
    go_enter Tryd.func9, Tryd.ntmps9
    go_wp2
    go_ret2
    exact ⟨ret_ok (by simp [U.sgt, U.b2, h]), rfl⟩
set_option maxHeartbeats 400000 in
theorem app_eq (a b c : Int) (w : World) (ha : U.Ok a) (hb : U.Ok b) :
    Calls Tryd.prog 9 #[.int .i64 20, .int .u64 a, .int .u64 b, .int .u64 c] w fun e w' => e = .returned (.tuple #[.int .u64 (U.eq a b), .nilIface]) ∧ w = w' := by
  obtain ⟨a0, a1⟩ := ha
  obtain ⟨b0, b1⟩ := hb
  by_cases h : a = b
  · have hd : (a == b) = true := by simpa using h
    go_enter Tryd.func9, Tryd.ntmps9
    go_wp2
    go_ret2
    exact ⟨ret_ok (by simp [U.eq, U.b2, h]), rfl⟩
  · have hd : (a == b) = false := by simpa using h
    go_enter Tryd.func9, Tryd.ntmps9
    go_wp2
    go_ret2
    exact ⟨ret_ok (by simp [U.eq, U.b2, h]), rfl⟩
set_option maxHeartbeats 400000 in
theorem app_isz (a b c : Int) (w : World) (ha : U.Ok a) (hb : U.Ok b) :
    Calls Tryd.prog 9 #[.int .i64 21, .int .u64 a, .int .u64 b, .int .u64 c] w fun e w' => e = .returned (.tuple #[.int .u64 (U.isz a), .nilIface]) ∧ w = w' := by
  obtain ⟨a0, a1⟩ := ha
  obtain ⟨b0, b1⟩ := hb
  by_cases h : a = 0
  · have hd : (a == 0) = true := by simpa using h
    go_enter Tryd.func9, Tryd.ntmps9
    go_wp2
    go_ret2
    exact ⟨ret_ok (by simp [U.isz, U.b2, h]), rfl⟩
  · have hd : (a == 0) = false := by simpa using h
    go_enter Tryd.func9, Tryd.ntmps9
    go_wp2
    go_ret2
    exact ⟨ret_ok (by simp [U.isz, U.b2, h]), rfl⟩
set_option maxHeartbeats 400000 in
theorem app_and (a b c : Int) (w : World) (ha : U.Ok a) (hb : U.Ok b) :
    Calls Tryd.prog 9 #[.int .i64 22, .int .u64 a, .int .u64 b, .int .u64 c] w fun e w' => e = .returned (.tuple #[.int .u64 (U.and a b), .nilIface]) ∧ w = w' := by
  obtain ⟨a0, a1⟩ := ha
  obtain ⟨b0, b1⟩ := hb
  go_enter Tryd.func9, Tryd.ntmps9
  go_wp2
  go_ret2
  exact ⟨ret_ok (by unfold U.and; first | rfl | exact u64_and a b a0 (by omega) b0 (by omega)), rfl⟩
set_option maxHeartbeats 400000 in
theorem app_or (a b c : Int) (w : World) (ha : U.Ok a) (hb : U.Ok b) :
    Calls Tryd.prog 9 #[.int .i64 23, .int .u64 a, .int .u64 b, .int .u64 c] w fun e w' => e = .returned (.tuple #[.int .u64 (U.or a b), .nilIface]) ∧ w = w' := by
  obtain ⟨a0, a1⟩ := ha
  obtain ⟨b0, b1⟩ := hb
  go_enter Tryd.func9, Tryd.ntmps9
  go_wp2
  go_ret2
  exact ⟨ret_ok (by unfold U.or; first | rfl | exact u64_or a b a0 (by omega) b0 (by omega)), rfl⟩
set_option maxHeartbeats 400000 in
theorem app_xor (a b c : Int) (w : World) (ha : U.Ok a) (hb : U.Ok b) :
    Calls Tryd.prog 9 #[.int .i64 24, .int .u64 a, .int .u64 b, .int .u64 c] w fun e w' => e = .returned (.tuple #[.int .u64 (U.xor a b), .nilIface]) ∧ w = w' := by
  obtain ⟨a0, a1⟩ := ha
  obtain ⟨b0, b1⟩ := hb
  go_enter Tryd.func9, Tryd.ntmps9
  go_wp2
  go_ret2
  exact ⟨ret_ok (by unfold U.xor; first | rfl | exact u64_xor a b a0 (by omega) b0 (by omega)), rfl⟩
set_option maxHeartbeats 400000 in
theorem app_not (a b c : Int) (w : World) (ha : U.Ok a) (hb : U.Ok b) :
    Calls Tryd.prog 9 #[.int .i64 25, .int .u64 a, .int .u64 b, .int .u64 c] w fun e w' => e = .returned (.tuple #[.int .u64 (U.not a), .nilIface]) ∧ w = w' := by
  obtain ⟨a0, a1⟩ := ha
  obtain ⟨b0, b1⟩ := hb
  go_enter Tryd.func9, Tryd.ntmps9
  go_wp2
  go_ret2
  exact ⟨ret_ok (by unfold U.not; rw [u64_xor a 18446744073709551615 a0 (by omega) (by omega) (by omega)]; have h := Bt.xor_ones a.toNat (by omega); simp at h ⊢; omega), rfl⟩
set_option maxHeartbeats 400000 in
theorem app_shl (a b c : Int) (w : World) (ha : U.Ok a) (hb : U.Ok b) :
    Calls Tryd.prog 9 #[.int .i64 13, .int .u64 a, .int .u64 b, .int .u64 c] w fun e w' => e = .returned (.tuple #[.int .u64 (U.shl a b), .nilIface]) ∧ w = w' := by
  obtain ⟨a0, a1⟩ := ha
  obtain ⟨b0, b1⟩ := hb
  have hm : (0 : Int) < 2 ^ min a.toNat 64 := U.p2 _
  go_enter Tryd.func9, Tryd.ntmps9
  go_wp2
  go_ret2
  exact ⟨ret_ok (by unfold U.shl; rw [IntKind.wrap_u64]), rfl⟩
set_option maxHeartbeats 400000 in
theorem app_shr (a b c : Int) (w : World) (ha : U.Ok a) (hb : U.Ok b) :
    Calls Tryd.prog 9 #[.int .i64 14, .int .u64 a, .int .u64 b, .int .u64 c] w fun e w' => e = .returned (.tuple #[.int .u64 (U.shr a b), .nilIface]) ∧ w = w' := by
  obtain ⟨a0, a1⟩ := ha
  obtain ⟨b0, b1⟩ := hb
  have hm : (0 : Int) < 2 ^ min a.toNat 64 := U.p2 _
  go_enter Tryd.func9, Tryd.ntmps9
  go_wp2
  go_ret2
  exact ⟨ret_ok (by unfold U.shr; rfl), rfl⟩
set_option maxHeartbeats 400000 in
theorem app_sar (a b c : Int) (w : World) (ha : U.Ok a) (hb : U.Ok b) :
    Calls Tryd.prog 9 #[.int .i64 15, .int .u64 a, .int .u64 b, .int .u64 c] w fun e w' => e = .returned (.tuple #[.int .u64 (U.sar a b), .nilIface]) ∧ w = w' := by
  obtain ⟨a0, a1⟩ := ha
  obtain ⟨b0, b1⟩ := hb
  have hm : (0 : Int) < 2 ^ min a.toNat 64 := U.p2 _
  have e2 := U.wrap64_sg b ⟨b0, b1⟩
  go_enter Tryd.func9, Tryd.ntmps9
  go_wp2
  go_ret2
  exact ⟨ret_ok (by unfold U.sar; rw [IntKind.wrap_u64]), rfl⟩
set_option maxHeartbeats 400000 in
theorem app_byte (a b c : Int) (w : World) (ha : U.Ok a) (hb : U.Ok b) :
    Calls Tryd.prog 9 #[.int .i64 12, .int .u64 a, .int .u64 b, .int .u64 c] w fun e w' => e = .returned (.tuple #[.int .u64 (U.byte a b), .nilIface]) ∧ w = w' := by
  obtain ⟨a0, a1⟩ := ha
  obtain ⟨b0, b1⟩ := hb
  by_cases h : 7 < a
  · skip
    go_enter Tryd.func9, Tryd.ntmps9
    go_wp2
    go_ret2
    exact ⟨ret_ok (by unfold U.byte; rw [if_pos h]), rfl⟩
  · skip
    go_enter Tryd.func9, Tryd.ntmps9
    go_wp2
    go_ret2
    exact ⟨ret_ok (by unfold U.byte; rw [if_neg (by omega)]; exact U.and_255 _ (Int.ediv_nonneg b0 (Int.le_of_lt (U.p2 _))) (by have := Int.ediv_le_self (2 ^ (56 - 8 * a).toNat) b0; omega)), rfl⟩
set_option maxHeartbeats 400000 in
theorem app_sext (a b c : Int) (w : World) (ha : U.Ok a) (hb : U.Ok b) :
    Calls Tryd.prog 9 #[.int .i64 11, .int .u64 a, .int .u64 b, .int .u64 c] w fun e w' => e = .returned (.tuple #[.int .u64 (U.sext a b), .nilIface]) ∧ w = w' := by
  obtain ⟨a0, a1⟩ := ha
  obtain ⟨b0, b1⟩ := hb
  by_cases h : 7 ≤ a
  · skip
    go_enter Tryd.func9, Tryd.ntmps9
    go_wp2
    go_ret2
    exact ⟨ret_ok (by unfold U.sext; rw [if_pos (by omega)]), rfl⟩
  · have hm : (0 : Int) < 2 ^ (56 - 8 * a).toNat := U.p2 _
    have e2 := U.wrap64_sg _ (U.mulp_ok b (56 - 8 * a).toNat)
    go_enter Tryd.func9, Tryd.ntmps9
    go_wp2
    go_ret2
    exact ⟨ret_ok (by unfold U.sext; rw [if_neg (by omega), IntKind.wrap_u64, IntKind.wrap_u64, e2]), rfl⟩
set_option maxHeartbeats 400000 in
theorem app_sdiv (a b c : Int) (w : World) (ha : U.Ok a) (hb : U.Ok b) :
    Calls Tryd.prog 9 #[.int .i64 5, .int .u64 a, .int .u64 b, .int .u64 c] w fun e w' => e = .returned (.tuple #[.int .u64 (U.sdiv a b), .nilIface]) ∧ w = w' := by
  obtain ⟨a0, a1⟩ := ha
  obtain ⟨b0, b1⟩ := hb
  have e1 := U.wrap64_sg a ⟨a0, a1⟩
  have e2 := U.wrap64_sg b ⟨b0, b1⟩
  by_cases h : b = 0
  · subst h
    go_enter Tryd.func9, Tryd.ntmps9
    go_wp2
    go_ret2
    exact ⟨ret_ok (rfl), rfl⟩
  · have hz : U.sg b ≠ 0 := U.sg_ne h ⟨b0, b1⟩
    go_enter Tryd.func9, Tryd.ntmps9
    go_wp2
    go_ret2
    exact ⟨ret_ok (by unfold U.sdiv; rw [if_neg h, IntKind.wrap_u64]; unfold wrap64; omega), rfl⟩
set_option maxHeartbeats 400000 in
theorem app_smod (a b c : Int) (w : World) (ha : U.Ok a) (hb : U.Ok b) :
    Calls Tryd.prog 9 #[.int .i64 7, .int .u64 a, .int .u64 b, .int .u64 c] w fun e w' => e = .returned (.tuple #[.int .u64 (U.smod a b), .nilIface]) ∧ w = w' := by
  obtain ⟨a0, a1⟩ := ha
  obtain ⟨b0, b1⟩ := hb
  have e1 := U.wrap64_sg a ⟨a0, a1⟩
  have e2 := U.wrap64_sg b ⟨b0, b1⟩
  by_cases h : b = 0
  · subst h
    go_enter Tryd.func9, Tryd.ntmps9
    go_wp2
    go_ret2
    exact ⟨ret_ok (rfl), rfl⟩
  · have hz : U.sg b ≠ 0 := U.sg_ne h ⟨b0, b1⟩
    go_enter Tryd.func9, Tryd.ntmps9
    go_wp2
    go_ret2
    exact ⟨ret_ok (by unfold U.smod; rw [if_neg h, IntKind.wrap_u64]), rfl⟩
end W1
end Go.Proofs.YtebfecnpkifgeaaDoor
