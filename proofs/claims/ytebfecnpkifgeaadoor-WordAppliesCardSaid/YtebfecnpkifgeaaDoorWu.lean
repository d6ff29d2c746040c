/-
  Layer 1: what the operations answer, as plain functions on whole numbers, and the contracts of mootlaw01.at. Own work.
-/
import Derived.Test.YtebfecnpkifgeaaDoorErr
import Derived.Test.YtebfecnpkifgeaaDoorRow
import Derived.Test.YtebfecnpkifgeaaDoorBits
import Derived.Outline
import Derived.Lib.Hide
import Derived.OpenShut
import Derived.Deep.QuietTactic
import Derived.BigQuiet
namespace Go.Proofs.YtebfecnpkifgeaaDoor
open Go.RowKit
set_option linter.unusedVariables false
theorem ret_int {k : IntKind} {a b : Int} (h : a = b) : Ending.returned (.int k a) = .returned (.int k b) := by rw [h]
namespace U
def Ok (a : Int) : Prop := 0 ≤ a ∧ a ≤ 18446744073709551615
def add (a b : Int) : Int := (a + b) % 18446744073709551616
def sub (a b : Int) : Int := (a - b) % 18446744073709551616
def mul (a b : Int) : Int := (a * b) % 18446744073709551616
def div (a b : Int) : Int := if b = 0 then 0 else a / b
def mod (a b : Int) : Int := if b = 0 then 0 else a % b
def and (a b : Int) : Int := ((a.toNat &&& b.toNat : Nat) : Int)
def or (a b : Int) : Int := ((a.toNat ||| b.toNat : Nat) : Int)
def xor (a b : Int) : Int := ((a.toNat ^^^ b.toNat : Nat) : Int)
def not (a : Int) : Int := 18446744073709551615 - a
/-- The signed value. -/
def sg (a : Int) : Int := if a < 9223372036854775808 then a else a - 18446744073709551616
def b2 (p : Bool) : Int := if p then 1 else 0
def lt (a b : Int) : Int := b2 (decide (a < b))
def gt (a b : Int) : Int := b2 (decide (b < a))
def slt (a b : Int) : Int := b2 (decide (sg a < sg b))
def sgt (a b : Int) : Int := b2 (decide (sg b < sg a))
def eq (a b : Int) : Int := b2 (a == b)
def isz (a : Int) : Int := b2 (a == 0)
theorem mulL (x y m : Int) : (x % m * y) % m = (x * y) % m := by rw [Int.mul_emod, Int.emod_emod, ← Int.mul_emod]
theorem mulR (x y m : Int) : (x * (y % m)) % m = (x * y) % m := by rw [Int.mul_emod, Int.emod_emod, ← Int.mul_emod]
theorem b2_ok (p : Bool) : Ok (b2 p) := by cases p <;> simp [Ok, b2]
theorem add_ok (a b : Int) : Ok (add a b) := by unfold Ok add; omega
theorem sub_ok (a b : Int) : Ok (sub a b) := by unfold Ok sub; omega
theorem mul_ok (a b : Int) : Ok (mul a b) := by unfold Ok mul; omega
theorem not_ok {a : Int} (h : Ok a) : Ok (not a) := by unfold Ok not at *; omega
theorem and_ok {a b : Int} (h : Ok a) : Ok (and a b) := by
  unfold Ok and at *
  have := Nat.and_le_left (n := a.toNat) (m := b.toNat)
  omega
theorem or_ok {a b : Int} (h : Ok a) (k : Ok b) : Ok (or a b) := by
  unfold Ok or at *
  have := Nat.or_lt_two_pow (x := a.toNat) (y := b.toNat) (n := 64) (by omega) (by omega)
  omega
theorem xor_ok {a b : Int} (h : Ok a) (k : Ok b) : Ok (xor a b) := by
  unfold Ok xor at *
  have := Nat.xor_lt_two_pow (x := a.toNat) (y := b.toNat) (n := 64) (by omega) (by omega)
  omega
theorem wrap64_sg (a : Int) (h : Ok a) : wrap64 a = sg a := by
  unfold Ok at h; unfold wrap64 sg; split <;> omega
end U
open Go.RowKit
set_option linter.unusedVariables false
namespace U
def shl (a b : Int) : Int := (b * 2 ^ min a.toNat 64) % 18446744073709551616
def shr (a b : Int) : Int := b / 2 ^ min a.toNat 64
def sar (a b : Int) : Int := (sg b / 2 ^ min a.toNat 64) % 18446744073709551616
def byte (a b : Int) : Int := if 7 < a then 0 else b / 2 ^ (56 - 8 * a).toNat % 256
def exp (a b : Int) : Int := a ^ b.toNat % 18446744073709551616
theorem p2 (k : Nat) : (0 : Int) < 2 ^ k := Int.pow_pos (by decide)
theorem shl_ok {a b : Int} (h : Ok a) (k : Ok b) : Ok (shl a b) := by unfold Ok shl; omega
theorem sar_ok {a b : Int} (h : Ok a) (k : Ok b) : Ok (sar a b) := by unfold Ok sar; omega
theorem exp_ok {a b : Int} (h : Ok a) (k : Ok b) : Ok (exp a b) := by unfold Ok exp; omega
theorem shr_ok {a b : Int} (h : Ok a) (k : Ok b) : Ok (shr a b) := by
  unfold Ok shr at *
  have h1 := Int.ediv_nonneg k.1 (Int.le_of_lt (p2 (min a.toNat 64)))
  have h2 := Int.ediv_le_self (2 ^ min a.toNat 64) k.1
  omega
theorem div_ok {a b : Int} (h : Ok a) (k : Ok b) : Ok (div a b) := by
  unfold Ok div at *
  split
  · omega
  · have h1 := Int.ediv_nonneg h.1 k.1
    have h2 := Int.ediv_le_self b h.1
    omega
def sext (a b : Int) : Int := if 7 ≤ a then b else (sg (b * 2 ^ (56 - 8 * a).toNat % 18446744073709551616) / 2 ^ (56 - 8 * a).toNat) % 18446744073709551616
def sdiv (a b : Int) : Int := if b = 0 then 0 else (sg a).tdiv (sg b) % 18446744073709551616
def smod (a b : Int) : Int := if b = 0 then 0 else (sg a).tmod (sg b) % 18446744073709551616
theorem mulp_ok (b : Int) (k : Nat) : Ok (b * 2 ^ k % 18446744073709551616) := by unfold Ok; omega
theorem sg_ne {b : Int} (h : ¬ b = 0) (hb : Ok b) : sg b ≠ 0 := by unfold Ok at hb; unfold sg; split <;> omega
theorem and_255 (z : Int) (h0 : 0 ≤ z) (h1 : z < 18446744073709551616) : Go.bits .and .u64 z 255 = z % 256 := by go_bits2
theorem powmod (x m : Int) (k : Nat) : ∀ v : Int, (v * (x % m) ^ k) % m = (v * x ^ k) % m := by
  induction k with
  | zero => intro v; simp
  | succ k ih =>
    intro v
    rw [Int.pow_succ, Int.pow_succ, ← Int.mul_assoc, ← Int.mul_assoc, U.mulR, Int.mul_assoc, Int.mul_comm _ x, ← Int.mul_assoc, ih (v * x), Int.mul_assoc, Int.mul_assoc, Int.mul_comm x]
theorem step_even (A B V : Int) (h0 : 0 ≤ B) (h : B % 2 = 0) : (V * (A * A % 18446744073709551616) ^ (B / 2).toNat) % 18446744073709551616 = (V * A ^ B.toNat) % 18446744073709551616 := by
  rw [powmod, show B.toNat = (B / 2).toNat + (B / 2).toNat by omega, Int.pow_add, Int.mul_pow]
theorem step_odd (A B V : Int) (h0 : 0 ≤ B) (h : B % 2 = 1) : (V * A % 18446744073709551616 * (A * A % 18446744073709551616) ^ (B / 2).toNat) % 18446744073709551616 = (V * A ^ B.toNat) % 18446744073709551616 := by
  rw [U.mulL, powmod, show B.toNat = (B / 2).toNat + (B / 2).toNat + 1 by omega, Int.pow_succ, Int.pow_add, Int.mul_pow, Int.mul_assoc, Int.mul_comm A]
/-- What holds at a round's head of the power. -/
def PRel (a b : Int) (va vb vv : Value) : Prop :=
  ∃ A B V : Int, va = .int .u64 A ∧ vb = .int .u64 B ∧ vv = .int .u64 V ∧ Ok A ∧ Ok B ∧ Ok V ∧ (V * A ^ B.toNat) % 18446744073709551616 = a ^ b.toNat % 18446744073709551616
theorem mod_ok {a b : Int} (h : Ok a) (k : Ok b) : Ok (mod a b) := by
  unfold Ok mod at *
  split
  · omega
  · have h1 := Int.emod_nonneg a (show b ≠ 0 by assumption)
    have h2 := Int.emod_lt_of_pos a (show 0 < b by omega)
    omega
theorem sdiv_ok {a b : Int} (h : Ok a) (k : Ok b) : Ok (sdiv a b) := by unfold Ok sdiv; split <;> omega
theorem smod_ok {a b : Int} (h : Ok a) (k : Ok b) : Ok (smod a b) := by unfold Ok smod; split <;> omega
theorem sext_ok {a b : Int} (h : Ok a) (k : Ok b) : Ok (sext a b) := by unfold Ok sext at *; split <;> omega
theorem byte_ok {a b : Int} (h : Ok a) (k : Ok b) : Ok (byte a b) := by
  unfold Ok byte
  split <;> omega
end U
set_option maxHeartbeats 400000 in
theorem power_any (a b : Int) (w : World) (ha : U.Ok a) (hb : U.Ok b) :
    Calls Tryd.prog 36 #[.int .u64 a, .int .u64 b] w fun e w' => e = .returned (.int .u64 (U.exp a b)) ∧ w = w' := by
  obtain ⟨a0, a1⟩ := ha
  obtain ⟨b0, b1⟩ := hb
  go_enter Tryd.func36, Tryd.ntmps36
  go_wp2
  go_loop [0, 1, 5] (U.PRel a b) (fun _ vb _ => (intOf vb).toNat)
  case atStart => exact ⟨a, b, 1, rfl, rfl, rfl, ⟨a0, a1⟩, ⟨b0, b1⟩, by unfold U.Ok; decide, by rw [Int.one_mul]⟩
  case round =>
    obtain ⟨A, B, V, rfl, rfl, rfl, ⟨A0, A1⟩, ⟨B0, B1⟩, ⟨V0, V1⟩, hp⟩ := hrel
    have HP := Lib.hid hp
    clear hp
    by_cases hz : 0 < B
    · have h2 := and_one_u64 B B0 (by omega)
      by_cases ho : B % 2 = 1
      · have hob : (B % 2 == 1) = true := by simpa using ho
        clear ho
        go_wp2
        go_round
        case rel => exact ⟨A * A % 18446744073709551616, B / 2, V * A % 18446744073709551616, by rw [IntKind.wrap_u64], by simp, by rw [IntKind.wrap_u64], by unfold U.Ok; omega, by unfold U.Ok; omega, by unfold U.Ok; omega, by rw [← HP.out]; exact U.step_odd A B V B0 (by simpa using hob)⟩
        case measure => simp [intOf]; omega
      · have hob : (B % 2 == 1) = false := by simpa using ho
        clear ho
        go_wp2
        go_round
        case rel => exact ⟨A * A % 18446744073709551616, B / 2, V, by rw [IntKind.wrap_u64], by simp, rfl, by unfold U.Ok; omega, by unfold U.Ok; omega, ⟨V0, V1⟩, by rw [← HP.out]; exact U.step_even A B V B0 (by have := hob; simp at this; omega)⟩
        case measure => simp [intOf]; omega
    · have hB : B = 0 := by omega
      subst hB
      go_wp2
      go_ret
      refine ⟨ret_int ?_, rfl⟩
      have := HP.out
      simp at this
      unfold U.exp
      omega
set_option maxHeartbeats 400000 in
theorem arith_exp (a b c : Int) (w : World) (ha : U.Ok a) (hb : U.Ok b) :
    Calls Tryd.prog 20 #[.int .i64 10, .int .u64 a, .int .u64 b, .int .u64 c] w fun e w' => e = .returned (.int .u64 (U.exp a b)) ∧ w = w' := by
  go_enter Tryd.func20, Tryd.ntmps20
  go_wp2_with fail
  refine (power_any a b _ ha hb).mono ?_
  rintro e w' ⟨rfl, rfl⟩
  go_wp2_with fail
  go_ret
  exact ⟨rfl, rfl⟩
theorem apply_exp (a b c : Int) (w : World) (ha : U.Ok a) (hb : U.Ok b) :
    Calls Tryd.prog 9 #[.int .i64 10, .int .u64 a, .int .u64 b, .int .u64 c] w fun e w' => e = .returned (.tuple #[.int .u64 (U.exp a b), .nilIface]) ∧ w = w' := by
  go_enter Tryd.func9, Tryd.ntmps9
  go_wp2_with fail
  refine (arith_exp a b c _ ha hb).mono ?_
  rintro e w' ⟨rfl, rfl⟩
  go_wp2_with fail
  go_ret2
  exact ⟨rfl, rfl⟩
end Go.Proofs.YtebfecnpkifgeaaDoor
