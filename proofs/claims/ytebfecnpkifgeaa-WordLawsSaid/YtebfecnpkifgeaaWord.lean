/-
  Layer 1: what the operations answer, as plain functions on whole numbers, and the contracts of mootlaw01.at. Own work.
-/
import Derived.Test.YtebfecnpkifgeaaErr
import Derived.Test.YtebfecnpkifgeaaRow
import Derived.Test.YtebfecnpkifgeaaBits
import Derived.Outline
import Derived.Lib.Hide
import Derived.OpenShut
import Derived.Deep.QuietTactic
import Derived.BigQuiet
namespace Go.Proofs.Ytebfecnpkifgeaa
open Go.RowKit
set_option linter.unusedVariables false
theorem ret_int {k : IntKind} {a b : Int} (h : a = b) : Ending.returned (.int k a) = .returned (.int k b) := by rw [h]
namespace U
def Ok (a : Int) : Prop := 0 ≤ a ∧ a ≤ 18446744073709551615
def add (a b : Int) : Int := (a + b) % 18446744073709551616
def sub (a b : Int) : Int := (a - b) % 18446744073709551616
def mul (a b : Int) : Int := (a * b) % 18446744073709551616
def div (a b : Int) : Int := if b = 0 then 0 else a / b
def mod (a b : Int) : Int := if b = 0 then 0 else a % b
def and (a b : Int) : Int := ((a.toNat &&& b.toNat : Nat) : Int)
def or (a b : Int) : Int := ((a.toNat ||| b.toNat : Nat) : Int)
def xor (a b : Int) : Int := ((a.toNat ^^^ b.toNat : Nat) : Int)
def not (a : Int) : Int := 18446744073709551615 - a
/-- The signed value. -/
def sg (a : Int) : Int := if a < 9223372036854775808 then a else a - 18446744073709551616
def b2 (p : Bool) : Int := if p then 1 else 0
def lt (a b : Int) : Int := b2 (decide (a < b))
def gt (a b : Int) : Int := b2 (decide (b < a))
def slt (a b : Int) : Int := b2 (decide (sg a < sg b))
def sgt (a b : Int) : Int := b2 (decide (sg b < sg a))
def eq (a b : Int) : Int := b2 (a == b)
def isz (a : Int) : Int := b2 (a == 0)
theorem mulL (x y m : Int) : (x % m * y) % m = (x * y) % m := by rw [Int.mul_emod, Int.emod_emod, ← Int.mul_emod]
theorem mulR (x y m : Int) : (x * (y % m)) % m = (x * y) % m := by rw [Int.mul_emod, Int.emod_emod, ← Int.mul_emod]
theorem b2_ok (p : Bool) : Ok (b2 p) := by cases p <;> simp [Ok, b2]
theorem add_ok (a b : Int) : Ok (add a b) := by unfold Ok add; omega
theorem sub_ok (a b : Int) : Ok (sub a b) := by unfold Ok sub; omega
theorem mul_ok (a b : Int) : Ok (mul a b) := by unfold Ok mul; omega
theorem not_ok {a : Int} (h : Ok a) : Ok (not a) := by unfold Ok not at *; omega
theorem and_ok {a b : Int} (h : Ok a) : Ok (and a b) := by
  unfold Ok and at *
  have := Nat.and_le_left (n := a.toNat) (m := b.toNat)
  omega
theorem or_ok {a b : Int} (h : Ok a) (k : Ok b) : Ok (or a b) := by
  unfold Ok or at *
  have := Nat.or_lt_two_pow (x := a.toNat) (y := b.toNat) (n := 64) (by omega) (by omega)
  omega
theorem xor_ok {a b : Int} (h : Ok a) (k : Ok b) : Ok (xor a b) := by
  unfold Ok xor at *
  have := Nat.xor_lt_two_pow (x := a.toNat) (y := b.toNat) (n := 64) (by omega) (by omega)
  omega
theorem wrap64_sg (a : Int) (h : Ok a) : wrap64 a = sg a := by
  unfold Ok at h; unfold wrap64 sg; split <;> omega
end U
set_option maxHeartbeats 400000 in
theorem at_add (a b : Int) (w : World) (ha : U.Ok a) (hb : U.Ok b) :
    Calls Try.prog 10 #[.int .i64 1, .int .u64 a, .int .u64 b] w fun e w' => e = .returned (.int .u64 (U.add a b)) ∧ w = w' := by
  obtain ⟨a0, a1⟩ := ha
  obtain ⟨b0, b1⟩ := hb
  go_enter Try.func10, Try.ntmps10
  go_wp2
  go_ret
  exact ⟨ret_int (by unfold U.add; rw [IntKind.wrap_u64]), rfl⟩
set_option maxHeartbeats 400000 in
theorem at_sub (a b : Int) (w : World) (ha : U.Ok a) (hb : U.Ok b) :
    Calls Try.prog 10 #[.int .i64 2, .int .u64 a, .int .u64 b] w fun e w' => e = .returned (.int .u64 (U.sub a b)) ∧ w = w' := by
  obtain ⟨a0, a1⟩ := ha
  obtain ⟨b0, b1⟩ := hb
  go_enter Try.func10, Try.ntmps10
  go_wp2
  go_ret
  exact ⟨ret_int (by unfold U.sub; rw [IntKind.wrap_u64, IntKind.wrap_u64]; omega), rfl⟩
set_option maxHeartbeats 400000 in
theorem at_mul (a b : Int) (w : World) (ha : U.Ok a) (hb : U.Ok b) :
    Calls Try.prog 10 #[.int .i64 3, .int .u64 a, .int .u64 b] w fun e w' => e = .returned (.int .u64 (U.mul a b)) ∧ w = w' := by
  obtain ⟨a0, a1⟩ := ha
  obtain ⟨b0, b1⟩ := hb
  go_enter Try.func10, Try.ntmps10
  go_wp2
  go_ret
  exact ⟨ret_int (by unfold U.mul; rw [IntKind.wrap_u64]), rfl⟩
set_option maxHeartbeats 400000 in
theorem at_div (a b : Int) (w : World) (ha : U.Ok a) (hb : U.Ok b) :
    Calls Try.prog 10 #[.int .i64 4, .int .u64 a, .int .u64 b] w fun e w' => e = .returned (.int .u64 (U.div a b)) ∧ w = w' := by
  obtain ⟨a0, a1⟩ := ha
  obtain ⟨b0, b1⟩ := hb
  by_cases h : b = 0
  · subst h
    go_enter Try.func10, Try.ntmps10
    go_wp2
    go_ret
    exact ⟨ret_int (rfl), rfl⟩
  · have hp : 1 ≤ b := by omega
    go_enter Try.func10, Try.ntmps10
    go_wp2
    go_ret
    exact ⟨ret_int (by unfold U.div; rw [if_neg h]), rfl⟩
set_option maxHeartbeats 400000 in
theorem at_mod (a b : Int) (w : World) (ha : U.Ok a) (hb : U.Ok b) :
    Calls Try.prog 10 #[.int .i64 6, .int .u64 a, .int .u64 b] w fun e w' => e = .returned (.int .u64 (U.mod a b)) ∧ w = w' := by
  obtain ⟨a0, a1⟩ := ha
  obtain ⟨b0, b1⟩ := hb
  by_cases h : b = 0
  · subst h
    go_enter Try.func10, Try.ntmps10
    go_wp2
    go_ret
    exact ⟨ret_int (rfl), rfl⟩
  · have hp : 1 ≤ b := by omega
    go_enter Try.func10, Try.ntmps10
    go_wp2
    go_ret
    exact ⟨ret_int (by unfold U.mod; rw [if_neg h]), rfl⟩
set_option maxHeartbeats 400000 in
theorem at_lt (a b : Int) (w : World) (ha : U.Ok a) (hb : U.Ok b) :
    Calls Try.prog 10 #[.int .i64 16, .int .u64 a, .int .u64 b] w fun e w' => e = .returned (.int .u64 (U.lt a b)) ∧ w = w' := by
  obtain ⟨a0, a1⟩ := ha
  obtain ⟨b0, b1⟩ := hb
  by_cases h : a < b
  · have hd : decide (a < b) = true := by simpa using h
    go_enter Try.func10, Try.ntmps10
    go_wp2
    go_ret
    exact ⟨ret_int (by simp [U.lt, U.b2, h]), rfl⟩
  · have hd : decide (a < b) = false := by simpa using h
    go_enter Try.func10, Try.ntmps10
    go_wp2
    go_ret
    exact ⟨ret_int (by simp [U.lt, U.b2, h]), rfl⟩
set_option maxHeartbeats 400000 in
theorem at_gt (a b : Int) (w : World) (ha : U.Ok a) (hb : U.Ok b) :
    Calls Try.prog 10 #[.int .i64 17, .int .u64 a, .int .u64 b] w fun e w' => e = .returned (.int .u64 (U.gt a b)) ∧ w = w' := by
  obtain ⟨a0, a1⟩ := ha
  obtain ⟨b0, b1⟩ := hb
  by_cases h : b < a
  · have hd : decide (b < a) = true := by simpa using h
    go_enter Try.func10, Try.ntmps10
    go_wp2
    go_ret
    exact ⟨ret_int (by simp [U.gt, U.b2, h]), rfl⟩
  · have hd : decide (b < a) = false := by simpa using h
    go_enter Try.func10, Try.ntmps10
    go_wp2
    go_ret
    exact ⟨ret_int (by simp [U.gt, U.b2, h]), rfl⟩
set_option maxHeartbeats 400000 in
theorem at_slt (a b : Int) (w : World) (ha : U.Ok a) (hb : U.Ok b) :
    Calls Try.prog 10 #[.int .i64 18, .int .u64 a, .int .u64 b] w fun e w' => e = .returned (.int .u64 (U.slt a b)) ∧ w = w' := by
  obtain ⟨a0, a1⟩ := ha
  obtain ⟨b0, b1⟩ := hb
  have e1 := U.wrap64_sg a ⟨a0, a1⟩
  have e2 := U.wrap64_sg b ⟨b0, b1⟩
  by_cases h : U.sg a < U.sg b
  · have hd : decide (U.sg a < U.sg b) = true := by simpa using h
    go_enter Try.func10, Try.ntmps10
    go_wp2
    go_ret
    exact ⟨ret_int (by simp [U.slt, U.b2, h]), rfl⟩
  · have hd : decide (U.sg a < U.sg b) = false := by simpa using h
    go_enter Try.func10, Try.ntmps10
    go_wp2
    go_ret
    exact ⟨ret_int (by simp [U.slt, U.b2, h]), rfl⟩
set_option maxHeartbeats 400000 in
theorem at_sgt (a b : Int) (w : World) (ha : U.Ok a) (hb : U.Ok b) :
    Calls Try.prog 10 #[.int .i64 19, .int .u64 a, .int .u64 b] w fun e w' => e = .returned (.int .u64 (U.sgt a b)) ∧ w = w' := by
  obtain ⟨a0, a1⟩ := ha
  obtain ⟨b0, b1⟩ := hb
  have e1 := U.wrap64_sg a ⟨a0, a1⟩
  have e2 := U.wrap64_sg b ⟨b0, b1⟩
  by_cases h : U.sg b < U.sg a
  · have hd : decide (U.sg b < U.sg a) = true := by simpa using h
    go_enter Try.func10, Try.ntmps10
    go_wp2
    go_ret
    exact ⟨ret_int (by simp [U.sgt, U.b2, h]), rfl⟩
  · have hd : decide (U.sg b < U.sg a) = false := by simpa using h
    go_enter Try.func10, Try.ntmps10
    go_wp2
    go_ret
    exact ⟨ret_int (by simp [U.sgt, U.b2, h]), rfl⟩
set_option maxHeartbeats 400000 in
theorem at_eq (a b : Int) (w : World) (ha : U.Ok a) (hb : U.Ok b) :
    Calls Try.prog 10 #[.int .i64 20, .int .u64 a, .int .u64 b] w fun e w' => e = .returned (.int .u64 (U.eq a b)) ∧ w = w' := by
  obtain ⟨a0, a1⟩ := ha
  obtain ⟨b0, b1⟩ := hb
  by_cases h : a = b
  · have hd : (a == b) = true := by simpa using h
    go_enter Try.func10, Try.ntmps10
    go_wp2
    go_ret
    exact ⟨ret_int (by simp [U.eq, U.b2, h]), rfl⟩
  · have hd : (a == b) = false := by simpa using h
    go_enter Try.func10, Try.ntmps10
    go_wp2
    go_ret
    exact ⟨ret_int (by simp [U.eq, U.b2, h]), rfl⟩
set_option maxHeartbeats 400000 in
theorem at_isz (a b : Int) (w : World) (ha : U.Ok a) (hb : U.Ok b) :
    Calls Try.prog 10 #[.int .i64 21, .int .u64 a, .int .u64 b] w fun e w' => e = .returned (.int .u64 (U.isz a)) ∧ w = w' := by
  obtain ⟨a0, a1⟩ := ha
  obtain ⟨b0, b1⟩ := hb
  by_cases h : a = 0
  · have hd : (a == 0) = true := by simpa using h
    go_enter Try.func10, Try.ntmps10
    go_wp2
    go_ret
    exact ⟨ret_int (by simp [U.isz, U.b2, h]), rfl⟩
  · have hd : (a == 0) = false := by simpa using h
    go_enter Try.func10, Try.ntmps10
    go_wp2
    go_ret
    exact ⟨ret_int (by simp [U.isz, U.b2, h]), rfl⟩
set_option maxHeartbeats 400000 in
theorem at_and (a b : Int) (w : World) (ha : U.Ok a) (hb : U.Ok b) :
    Calls Try.prog 10 #[.int .i64 22, .int .u64 a, .int .u64 b] w fun e w' => e = .returned (.int .u64 (U.and a b)) ∧ w = w' := by
  obtain ⟨a0, a1⟩ := ha
  obtain ⟨b0, b1⟩ := hb
  go_enter Try.func10, Try.ntmps10
  go_wp2
  go_ret
  exact ⟨ret_int (by unfold U.and; first | rfl | exact u64_and a b a0 (by omega) b0 (by omega)), rfl⟩
set_option maxHeartbeats 400000 in
theorem at_or (a b : Int) (w : World) (ha : U.Ok a) (hb : U.Ok b) :
    Calls Try.prog 10 #[.int .i64 23, .int .u64 a, .int .u64 b] w fun e w' => e = .returned (.int .u64 (U.or a b)) ∧ w = w' := by
  obtain ⟨a0, a1⟩ := ha
  obtain ⟨b0, b1⟩ := hb
  go_enter Try.func10, Try.ntmps10
  go_wp2
  go_ret
  exact ⟨ret_int (by unfold U.or; first | rfl | exact u64_or a b a0 (by omega) b0 (by omega)), rfl⟩
set_option maxHeartbeats 400000 in
theorem at_xor (a b : Int) (w : World) (ha : U.Ok a) (hb : U.Ok b) :
    Calls Try.prog 10 #[.int .i64 24, .int .u64 a, .int .u64 b] w fun e w' => e = .returned (.int .u64 (U.xor a b)) ∧ w = w' := by
  obtain ⟨a0, a1⟩ := ha
  obtain ⟨b0, b1⟩ := hb
  go_enter Try.func10, Try.ntmps10
  go_wp2
  go_ret
  exact ⟨ret_int (by unfold U.xor; first | rfl | exact u64_xor a b a0 (by omega) b0 (by omega)), rfl⟩
set_option maxHeartbeats 400000 in
theorem at_not (a b : Int) (w : World) (ha : U.Ok a) (hb : U.Ok b) :
    Calls Try.prog 10 #[.int .i64 25, .int .u64 a, .int .u64 b] w fun e w' => e = .returned (.int .u64 (U.not a)) ∧ w = w' := by
  obtain ⟨a0, a1⟩ := ha
  obtain ⟨b0, b1⟩ := hb
  go_enter Try.func10, Try.ntmps10
  go_wp2
  go_ret
  exact ⟨ret_int (by unfold U.not; rw [u64_xor a 18446744073709551615 a0 (by omega) (by omega) (by omega)]; have h := Bt.xor_ones a.toNat (by omega); simp at h ⊢; omega), rfl⟩
end Go.Proofs.Ytebfecnpkifgeaa
