/-
  mootref01.Apply, the simple operations. Own work.
-/
import Derived.Test.YtebfecnpkifgeaaDoorWa
namespace Go.Proofs.YtebfecnpkifgeaaDoor
open Go.RowKit
set_option linter.unusedVariables false
namespace W1
theorem xor_top (a : Int) (h0 : 0 ≤ a) (h1 : a ≤ 18446744073709551615) : Go.bits .xor .u64 a 9223372036854775808 = U.sg a + 9223372036854775808 := by
  rw [u64_xor a 9223372036854775808 h0 (by omega) (by omega) (by omega)]
  have h := Bt.xor_top a.toNat (by omega)
  simp at h ⊢
  rw [h]
  unfold U.sg
  split <;> omega
set_option maxHeartbeats 400000 in
theorem ref_add (a b c : Int) (w : World) (ha : U.Ok a) (hb : U.Ok b) :
    Calls Tryd.prog 10 #[.int .i64 1, .int .u64 a, .int .u64 b, .int .u64 c] w fun e w' => e = .returned (.tuple #[.int .u64 (U.add a b), .int .i64 0]) ∧ w = w' := by
  obtain ⟨a0, a1⟩ := ha
  obtain ⟨b0, b1⟩ := hb
  go_enter Tryd.func10, Tryd.ntmps10
  go_wp2
  go_ret2
  exact ⟨ret_ok (by unfold U.add; rw [IntKind.wrap_u64]), rfl⟩
set_option maxHeartbeats 400000 in
theorem ref_sub (a b c : Int) (w : World) (ha : U.Ok a) (hb : U.Ok b) :
    Calls Tryd.prog 10 #[.int .i64 2, .int .u64 a, .int .u64 b, .int .u64 c] w fun e w' => e = .returned (.tuple #[.int .u64 (U.sub a b), .int .i64 0]) ∧ w = w' := by
  obtain ⟨a0, a1⟩ := ha
  obtain ⟨b0, b1⟩ := hb
  go_enter Tryd.func10, Tryd.ntmps10
  go_wp2
  go_ret2
  exact ⟨ret_ok (by unfold U.sub; rw [IntKind.wrap_u64]), rfl⟩
set_option maxHeartbeats 400000 in
theorem ref_lt (a b c : Int) (w : World) (ha : U.Ok a) (hb : U.Ok b) :
    Calls Tryd.prog 10 #[.int .i64 16, .int .u64 a, .int .u64 b, .int .u64 c] w fun e w' => e = .returned (.tuple #[.int .u64 (U.lt a b), .int .i64 0]) ∧ w = w' := by
  obtain ⟨a0, a1⟩ := ha
  obtain ⟨b0, b1⟩ := hb
  by_cases h : a < b
  · have hd : decide (a < b) = true := by simpa using h
    go_enter Tryd.func10, Tryd.ntmps10
    go_wp2
    go_ret2
    exact ⟨ret_ok (by simp [U.lt, U.b2, h]), rfl⟩
  · have hd : decide (a < b) = false := by simpa using h
    go_enter Tryd.func10, Tryd.ntmps10
    go_wp2
    go_ret2
    exact ⟨ret_ok (by simp [U.lt, U.b2, h]), rfl⟩
set_option maxHeartbeats 400000 in
theorem ref_gt (a b c : Int) (w : World) (ha : U.Ok a) (hb : U.Ok b) :
    Calls Tryd.prog 10 #[.int .i64 17, .int .u64 a, .int .u64 b, .int .u64 c] w fun e w' => e = .returned (.tuple #[.int .u64 (U.gt a b), .int .i64 0]) ∧ w = w' := by
  obtain ⟨a0, a1⟩ := ha
  obtain ⟨b0, b1⟩ := hb
  by_cases h : b < a
  · have hd : decide (b < a) = true := by simpa using h
    go_enter Tryd.func10, Tryd.ntmps10
    go_wp2
    go_ret2
    exact ⟨ret_ok (by simp [U.gt, U.b2, h]), rfl⟩
  · have hd : decide (b < a) = false := by simpa using h
    go_enter Tryd.func10, Tryd.ntmps10
    go_wp2
    go_ret2
    exact ⟨ret_ok (by simp [U.gt, U.b2, h]), rfl⟩
set_option maxHeartbeats 400000 in
theorem ref_slt (a b c : Int) (w : World) (ha : U.Ok a) (hb : U.Ok b) :
    Calls Tryd.prog 10 #[.int .i64 18, .int .u64 a, .int .u64 b, .int .u64 c] w fun e w' => e = .returned (.tuple #[.int .u64 (U.slt a b), .int .i64 0]) ∧ w = w' := by
  obtain ⟨a0, a1⟩ := ha
  obtain ⟨b0, b1⟩ := hb
  have x1 := xor_top a a0 a1
  have x2 := xor_top b b0 b1
  have e1 := U.wrap64_sg a ⟨a0, a1⟩
  have e2 := U.wrap64_sg b ⟨b0, b1⟩
  by_cases h : U.sg a < U.sg b
  · have hd : decide (U.sg a < U.sg b) = true := by simpa using h
    go_enter Tryd.func10, Tryd.ntmps10
    go_wp2
    go_ret2
    exact ⟨ret_ok (by simp [U.slt, U.b2, h]), rfl⟩
  · have hd : decide (U.sg a < U.sg b) = false := by simpa using h
    go_enter Tryd.func10, Tryd.ntmps10
    go_wp2
    go_ret2
    exact ⟨ret_ok (by simp [U.slt, U.b2, h]), rfl⟩
set_option maxHeartbeats 400000 in
theorem ref_sgt (a b c : Int) (w : World) (ha : U.Ok a) (hb : U.Ok b) :
    Calls Tryd.prog 10 #[.int .i64 19, .int .u64 a, .int .u64 b, .int .u64 c] w fun e w' => e = .returned (.tuple #[.int .u64 (U.sgt a b), .int .i64 0]) ∧ w = w' := by
  obtain ⟨a0, a1⟩ := ha
  obtain ⟨b0, b1⟩ := hb
  have x1 := xor_top a a0 a1
  have x2 := xor_top b b0 b1
  have e1 := U.wrap64_sg a ⟨a0, a1⟩
  have e2 := U.wrap64_sg b ⟨b0, b1⟩
  by_cases h : U.sg b < U.sg a
  · have hd : decide (U.sg b < U.sg a) = true := by simpa using h
    go_enter Tryd.func10, Tryd.ntmps10
    go_wp2
    go_ret2
    exact ⟨ret_ok (by simp [U.sgt, U.b2, h]), rfl⟩
  · have hd : decide (U.sg b < U.sg a) = false := by simpa using h
    go_enter Tryd.func10, Tryd.ntmps10
    go_wp2
    go_ret2
    exact ⟨ret_ok (by simp [U.sgt, U.b2, h]), rfl⟩
set_option maxHeartbeats 400000 in
theorem ref_eq (a b c : Int) (w : World) (ha : U.Ok a) (hb : U.Ok b) :
    Calls Tryd.prog 10 #[.int .i64 20, .int .u64 a, .int .u64 b, .int .u64 c] w fun e w' => e = .returned (.tuple #[.int .u64 (U.eq a b), .int .i64 0]) ∧ w = w' := by
  obtain ⟨a0, a1⟩ := ha
  obtain ⟨b0, b1⟩ := hb
  by_cases h : a = b
  · have hd : (a == b) = true := by simpa using h
    go_enter Tryd.func10, Tryd.ntmps10
    go_wp2
    go_ret2
    exact ⟨ret_ok (by simp [U.eq, U.b2, h]), rfl⟩
  · have hd : (a == b) = false := by simpa using h
    go_enter Tryd.func10, Tryd.ntmps10
    go_wp2
    go_ret2
    exact ⟨ret_ok (by simp [U.eq, U.b2, h]), rfl⟩
set_option maxHeartbeats 400000 in
theorem ref_isz (a b c : Int) (w : World) (ha : U.Ok a) (hb : U.Ok b) :
    Calls Tryd.prog 10 #[.int .i64 21, .int .u64 a, .int .u64 b, .int .u64 c] w fun e w' => e = .returned (.tuple #[.int .u64 (U.isz a), .int .i64 0]) ∧ w = w' := by
  obtain ⟨a0, a1⟩ := ha
  obtain ⟨b0, b1⟩ := hb
  by_cases h : a = 0
  · have hd : (a == 0) = true := by simpa using h
    go_enter Tryd.func10, Tryd.ntmps10
    go_wp2
    go_ret2
    exact ⟨ret_ok (by simp [U.isz, U.b2, h]), rfl⟩
  · have hd : (a == 0) = false := by simpa using h
    go_enter Tryd.func10, Tryd.ntmps10
    go_wp2
    go_ret2
    exact ⟨ret_ok (by simp [U.isz, U.b2, h]), rfl⟩
set_option maxHeartbeats 400000 in
theorem ref_and (a b c : Int) (w : World) (ha : U.Ok a) (hb : U.Ok b) :
    Calls Tryd.prog 10 #[.int .i64 22, .int .u64 a, .int .u64 b, .int .u64 c] w fun e w' => e = .returned (.tuple #[.int .u64 (U.and a b), .int .i64 0]) ∧ w = w' := by
  obtain ⟨a0, a1⟩ := ha
  obtain ⟨b0, b1⟩ := hb
  go_enter Tryd.func10, Tryd.ntmps10
  go_wp2
  go_ret2
  exact ⟨ret_ok (by unfold U.and; first | rfl | exact u64_and a b a0 (by omega) b0 (by omega)), rfl⟩
set_option maxHeartbeats 400000 in
theorem ref_or (a b c : Int) (w : World) (ha : U.Ok a) (hb : U.Ok b) :
    Calls Tryd.prog 10 #[.int .i64 23, .int .u64 a, .int .u64 b, .int .u64 c] w fun e w' => e = .returned (.tuple #[.int .u64 (U.or a b), .int .i64 0]) ∧ w = w' := by
  obtain ⟨a0, a1⟩ := ha
  obtain ⟨b0, b1⟩ := hb
  go_enter Tryd.func10, Tryd.ntmps10
  go_wp2
  go_ret2
  exact ⟨ret_ok (by unfold U.or; first | rfl | exact u64_or a b a0 (by omega) b0 (by omega)), rfl⟩
set_option maxHeartbeats 400000 in
theorem ref_xor (a b c : Int) (w : World) (ha : U.Ok a) (hb : U.Ok b) :
    Calls Tryd.prog 10 #[.int .i64 24, .int .u64 a, .int .u64 b, .int .u64 c] w fun e w' => e = .returned (.tuple #[.int .u64 (U.xor a b), .int .i64 0]) ∧ w = w' := by
  obtain ⟨a0, a1⟩ := ha
  obtain ⟨b0, b1⟩ := hb
  go_enter Tryd.func10, Tryd.ntmps10
  go_wp2
  go_ret2
  exact ⟨ret_ok (by unfold U.xor; first | rfl | exact u64_xor a b a0 (by omega) b0 (by omega)), rfl⟩
set_option maxHeartbeats 400000 in
theorem ref_not (a b c : Int) (w : World) (ha : U.Ok a) (hb : U.Ok b) :
    Calls Tryd.prog 10 #[.int .i64 25, .int .u64 a, .int .u64 b, .int .u64 c] w fun e w' => e = .returned (.tuple #[.int .u64 (U.not a), .int .i64 0]) ∧ w = w' := by
  obtain ⟨a0, a1⟩ := ha
  obtain ⟨b0, b1⟩ := hb
  go_enter Tryd.func10, Tryd.ntmps10
  go_wp2
  go_ret2
  exact ⟨ret_ok (by unfold U.not; rw [u64_xor a 18446744073709551615 a0 (by omega) (by omega) (by omega)]; have h := Bt.xor_ones a.toNat (by omega); simp at h ⊢; omega), rfl⟩
end W1
end Go.Proofs.YtebfecnpkifgeaaDoor
