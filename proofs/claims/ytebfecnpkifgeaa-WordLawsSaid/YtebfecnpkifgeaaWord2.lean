/-
  Layer 1, more: shifts, bytes, signs, powers, signed quotients. Own work.
-/
import Derived.Test.YtebfecnpkifgeaaWord
import Derived.LoopTactic
import Derived.WalkSmall
namespace Go.Proofs.Ytebfecnpkifgeaa
open Go.RowKit
set_option linter.unusedVariables false
namespace U
def shl (a b : Int) : Int := (b * 2 ^ min a.toNat 64) % 18446744073709551616
def shr (a b : Int) : Int := b / 2 ^ min a.toNat 64
def sar (a b : Int) : Int := (sg b / 2 ^ min a.toNat 64) % 18446744073709551616
def byte (a b : Int) : Int := if 7 < a then 0 else b / 2 ^ (56 - 8 * a).toNat % 256
def exp (a b : Int) : Int := a ^ b.toNat % 18446744073709551616
theorem p2 (k : Nat) : (0 : Int) < 2 ^ k := Int.pow_pos (by decide)
theorem shl_ok {a b : Int} (h : Ok a) (k : Ok b) : Ok (shl a b) := by unfold Ok shl; omega
theorem sar_ok {a b : Int} (h : Ok a) (k : Ok b) : Ok (sar a b) := by unfold Ok sar; omega
theorem exp_ok {a b : Int} (h : Ok a) (k : Ok b) : Ok (exp a b) := by unfold Ok exp; omega
theorem shr_ok {a b : Int} (h : Ok a) (k : Ok b) : Ok (shr a b) := by
  unfold Ok shr at *
  have h1 := Int.ediv_nonneg k.1 (Int.le_of_lt (p2 (min a.toNat 64)))
  have h2 := Int.ediv_le_self (2 ^ min a.toNat 64) k.1
  omega
theorem div_ok {a b : Int} (h : Ok a) (k : Ok b) : Ok (div a b) := by
  unfold Ok div at *
  split
  · omega
  · have h1 := Int.ediv_nonneg h.1 k.1
    have h2 := Int.ediv_le_self b h.1
    omega
def sext (a b : Int) : Int := if 7 ≤ a then b else (sg (b * 2 ^ (56 - 8 * a).toNat % 18446744073709551616) / 2 ^ (56 - 8 * a).toNat) % 18446744073709551616
def sdiv (a b : Int) : Int := if b = 0 then 0 else (sg a).tdiv (sg b) % 18446744073709551616
def smod (a b : Int) : Int := if b = 0 then 0 else (sg a).tmod (sg b) % 18446744073709551616
theorem mulp_ok (b : Int) (k : Nat) : Ok (b * 2 ^ k % 18446744073709551616) := by unfold Ok; omega
theorem sg_ne {b : Int} (h : ¬ b = 0) (hb : Ok b) : sg b ≠ 0 := by unfold Ok at hb; unfold sg; split <;> omega
theorem and_255 (z : Int) (h0 : 0 ≤ z) (h1 : z < 18446744073709551616) : Go.bits .and .u64 z 255 = z % 256 := by go_bits2
theorem powmod (x m : Int) (k : Nat) : ∀ v : Int, (v * (x % m) ^ k) % m = (v * x ^ k) % m := by
  induction k with
  | zero => intro v; simp
  | succ k ih =>
    intro v
    rw [Int.pow_succ, Int.pow_succ, ← Int.mul_assoc, ← Int.mul_assoc, U.mulR, Int.mul_assoc, Int.mul_comm _ x, ← Int.mul_assoc, ih (v * x), Int.mul_assoc, Int.mul_assoc, Int.mul_comm x]
theorem step_even (A B V : Int) (h0 : 0 ≤ B) (h : B % 2 = 0) : (V * (A * A % 18446744073709551616) ^ (B / 2).toNat) % 18446744073709551616 = (V * A ^ B.toNat) % 18446744073709551616 := by
  rw [powmod, show B.toNat = (B / 2).toNat + (B / 2).toNat by omega, Int.pow_add, Int.mul_pow]
theorem step_odd (A B V : Int) (h0 : 0 ≤ B) (h : B % 2 = 1) : (V * A % 18446744073709551616 * (A * A % 18446744073709551616) ^ (B / 2).toNat) % 18446744073709551616 = (V * A ^ B.toNat) % 18446744073709551616 := by
  rw [U.mulL, powmod, show B.toNat = (B / 2).toNat + (B / 2).toNat + 1 by omega, Int.pow_succ, Int.pow_add, Int.mul_pow, Int.mul_assoc, Int.mul_comm A]
/-- What holds at a round's head of the power. -/
def PRel (a b : Int) (va vb vv : Value) : Prop :=
  ∃ A B V : Int, va = .int .u64 A ∧ vb = .int .u64 B ∧ vv = .int .u64 V ∧ Ok A ∧ Ok B ∧ Ok V ∧ (V * A ^ B.toNat) % 18446744073709551616 = a ^ b.toNat % 18446744073709551616
theorem mod_ok {a b : Int} (h : Ok a) (k : Ok b) : Ok (mod a b) := by
  unfold Ok mod at *
  split
  · omega
  · have h1 := Int.emod_nonneg a (show b ≠ 0 by assumption)
    have h2 := Int.emod_lt_of_pos a (show 0 < b by omega)
    omega
theorem sdiv_ok {a b : Int} (h : Ok a) (k : Ok b) : Ok (sdiv a b) := by unfold Ok sdiv; split <;> omega
theorem smod_ok {a b : Int} (h : Ok a) (k : Ok b) : Ok (smod a b) := by unfold Ok smod; split <;> omega
theorem sext_ok {a b : Int} (h : Ok a) (k : Ok b) : Ok (sext a b) := by unfold Ok sext at *; split <;> omega
theorem byte_ok {a b : Int} (h : Ok a) (k : Ok b) : Ok (byte a b) := by
  unfold Ok byte
  split <;> omega
end U
set_option maxHeartbeats 400000 in
theorem at_shl (a b : Int) (w : World) (ha : U.Ok a) (hb : U.Ok b) :
    Calls Try.prog 10 #[.int .i64 13, .int .u64 a, .int .u64 b] w fun e w' => e = .returned (.int .u64 (U.shl a b)) ∧ w = w' := by
  obtain ⟨a0, a1⟩ := ha
  obtain ⟨b0, b1⟩ := hb
  have hm : (0 : Int) < 2 ^ min a.toNat 64 := U.p2 _
  go_enter Try.func10, Try.ntmps10
  go_wp2
  go_ret
  exact ⟨ret_int (by unfold U.shl; rw [IntKind.wrap_u64]), rfl⟩
set_option maxHeartbeats 400000 in
theorem at_shr (a b : Int) (w : World) (ha : U.Ok a) (hb : U.Ok b) :
    Calls Try.prog 10 #[.int .i64 14, .int .u64 a, .int .u64 b] w fun e w' => e = .returned (.int .u64 (U.shr a b)) ∧ w = w' := by
  obtain ⟨a0, a1⟩ := ha
  obtain ⟨b0, b1⟩ := hb
  have hm : (0 : Int) < 2 ^ min a.toNat 64 := U.p2 _
  go_enter Try.func10, Try.ntmps10
  go_wp2
  go_ret
  exact ⟨ret_int (by unfold U.shr; rfl), rfl⟩
set_option maxHeartbeats 400000 in
theorem at_sar (a b : Int) (w : World) (ha : U.Ok a) (hb : U.Ok b) :
    Calls Try.prog 10 #[.int .i64 15, .int .u64 a, .int .u64 b] w fun e w' => e = .returned (.int .u64 (U.sar a b)) ∧ w = w' := by
  obtain ⟨a0, a1⟩ := ha
  obtain ⟨b0, b1⟩ := hb
  have hm : (0 : Int) < 2 ^ min a.toNat 64 := U.p2 _
  have e2 := U.wrap64_sg b ⟨b0, b1⟩
  go_enter Try.func10, Try.ntmps10
  go_wp2
  go_ret
  exact ⟨ret_int (by unfold U.sar; rw [IntKind.wrap_u64]), rfl⟩
set_option maxHeartbeats 400000 in
theorem at_byte (a b : Int) (w : World) (ha : U.Ok a) (hb : U.Ok b) :
    Calls Try.prog 10 #[.int .i64 12, .int .u64 a, .int .u64 b] w fun e w' => e = .returned (.int .u64 (U.byte a b)) ∧ w = w' := by
  obtain ⟨a0, a1⟩ := ha
  obtain ⟨b0, b1⟩ := hb
  by_cases h : 7 < a
  · skip
    go_enter Try.func10, Try.ntmps10
    go_wp2
    go_ret
    exact ⟨ret_int (by unfold U.byte; rw [if_pos h]), rfl⟩
  · skip
    go_enter Try.func10, Try.ntmps10
    go_wp2
    go_ret
    exact ⟨ret_int (by unfold U.byte; rw [if_neg (by omega)]; exact U.and_255 _ (Int.ediv_nonneg b0 (Int.le_of_lt (U.p2 _))) (by have := Int.ediv_le_self (2 ^ (56 - 8 * a).toNat) b0; omega)), rfl⟩
set_option maxHeartbeats 400000 in
theorem at_sext (a b : Int) (w : World) (ha : U.Ok a) (hb : U.Ok b) :
    Calls Try.prog 10 #[.int .i64 11, .int .u64 a, .int .u64 b] w fun e w' => e = .returned (.int .u64 (U.sext a b)) ∧ w = w' := by
  obtain ⟨a0, a1⟩ := ha
  obtain ⟨b0, b1⟩ := hb
  by_cases h : 7 ≤ a
  · skip
    go_enter Try.func10, Try.ntmps10
    go_wp2
    go_ret
    exact ⟨ret_int (by unfold U.sext; rw [if_pos (by omega)]), rfl⟩
  · have hm : (0 : Int) < 2 ^ (56 - 8 * a).toNat := U.p2 _
    have e2 := U.wrap64_sg _ (U.mulp_ok b (56 - 8 * a).toNat)
    go_enter Try.func10, Try.ntmps10
    go_wp2
    go_ret
    exact ⟨ret_int (by unfold U.sext; rw [if_neg (by omega), IntKind.wrap_u64, IntKind.wrap_u64, e2]), rfl⟩
set_option maxHeartbeats 400000 in
theorem at_sdiv (a b : Int) (w : World) (ha : U.Ok a) (hb : U.Ok b) :
    Calls Try.prog 10 #[.int .i64 5, .int .u64 a, .int .u64 b] w fun e w' => e = .returned (.int .u64 (U.sdiv a b)) ∧ w = w' := by
  obtain ⟨a0, a1⟩ := ha
  obtain ⟨b0, b1⟩ := hb
  have e1 := U.wrap64_sg a ⟨a0, a1⟩
  have e2 := U.wrap64_sg b ⟨b0, b1⟩
  by_cases h : b = 0
  · subst h
    go_enter Try.func10, Try.ntmps10
    go_wp2
    go_ret
    exact ⟨ret_int (rfl), rfl⟩
  · have hz : U.sg b ≠ 0 := U.sg_ne h ⟨b0, b1⟩
    go_enter Try.func10, Try.ntmps10
    go_wp2
    go_ret
    exact ⟨ret_int (by unfold U.sdiv; rw [if_neg h, IntKind.wrap_u64]; unfold wrap64; omega), rfl⟩
set_option maxHeartbeats 400000 in
theorem at_smod (a b : Int) (w : World) (ha : U.Ok a) (hb : U.Ok b) :
    Calls Try.prog 10 #[.int .i64 7, .int .u64 a, .int .u64 b] w fun e w' => e = .returned (.int .u64 (U.smod a b)) ∧ w = w' := by
  obtain ⟨a0, a1⟩ := ha
  obtain ⟨b0, b1⟩ := hb
  have e1 := U.wrap64_sg a ⟨a0, a1⟩
  have e2 := U.wrap64_sg b ⟨b0, b1⟩
  by_cases h : b = 0
  · subst h
    go_enter Try.func10, Try.ntmps10
    go_wp2
    go_ret
    exact ⟨ret_int (rfl), rfl⟩
  · have hz : U.sg b ≠ 0 := U.sg_ne h ⟨b0, b1⟩
    go_enter Try.func10, Try.ntmps10
    go_wp2
    go_ret
    exact ⟨ret_int (by unfold U.smod; rw [if_neg h, IntKind.wrap_u64]), rfl⟩
set_option maxHeartbeats 400000 in
theorem power_any (a b : Int) (w : World) (ha : U.Ok a) (hb : U.Ok b) :
    Calls Try.prog 25 #[.int .u64 a, .int .u64 b] w fun e w' => e = .returned (.int .u64 (U.exp a b)) ∧ w = w' := by
  obtain ⟨a0, a1⟩ := ha
  obtain ⟨b0, b1⟩ := hb
  go_enter Try.func25, Try.ntmps25
  go_wp2
  go_loop [0, 1, 5] (U.PRel a b) (fun _ vb _ => (intOf vb).toNat)
  case atStart => exact ⟨a, b, 1, rfl, rfl, rfl, ⟨a0, a1⟩, ⟨b0, b1⟩, by unfold U.Ok; decide, by rw [Int.one_mul]⟩
  case round =>
    obtain ⟨A, B, V, rfl, rfl, rfl, ⟨A0, A1⟩, ⟨B0, B1⟩, ⟨V0, V1⟩, hp⟩ := hrel
    have HP := Lib.hid hp
    clear hp
    by_cases hz : 0 < B
    · have h2 := and_one_u64 B B0 (by omega)
      by_cases ho : B % 2 = 1
      · have hob : (B % 2 == 1) = true := by simpa using ho
        clear ho
        go_wp2
        go_round
        case rel => exact ⟨A * A % 18446744073709551616, B / 2, V * A % 18446744073709551616, by rw [IntKind.wrap_u64], by simp, by rw [IntKind.wrap_u64], by unfold U.Ok; omega, by unfold U.Ok; omega, by unfold U.Ok; omega, by rw [← HP.out]; exact U.step_odd A B V B0 (by simpa using hob)⟩
        case measure => simp [intOf]; omega
      · have hob : (B % 2 == 1) = false := by simpa using ho
        clear ho
        go_wp2
        go_round
        case rel => exact ⟨A * A % 18446744073709551616, B / 2, V, by rw [IntKind.wrap_u64], by simp, rfl, by unfold U.Ok; omega, by unfold U.Ok; omega, ⟨V0, V1⟩, by rw [← HP.out]; exact U.step_even A B V B0 (by have := hob; simp at this; omega)⟩
        case measure => simp [intOf]; omega
    · have hB : B = 0 := by omega
      subst hB
      go_wp2
      go_ret
      refine ⟨ret_int ?_, rfl⟩
      have := HP.out
      simp at this
      unfold U.exp
      omega
set_option maxHeartbeats 400000 in
theorem arith_exp (a b c : Int) (w : World) (ha : U.Ok a) (hb : U.Ok b) :
    Calls Try.prog 16 #[.int .i64 10, .int .u64 a, .int .u64 b, .int .u64 c] w fun e w' => e = .returned (.int .u64 (U.exp a b)) ∧ w = w' := by
  go_enter Try.func16, Try.ntmps16
  go_wp2_with fail
  refine (power_any a b _ ha hb).mono ?_
  rintro e w' ⟨rfl, rfl⟩
  go_wp2_with fail
  go_ret
  exact ⟨rfl, rfl⟩
theorem apply_exp (a b c : Int) (w : World) (ha : U.Ok a) (hb : U.Ok b) :
    Calls Try.prog 13 #[.int .i64 10, .int .u64 a, .int .u64 b, .int .u64 c] w fun e w' => e = .returned (.tuple #[.int .u64 (U.exp a b), .nilIface]) ∧ w = w' := by
  go_enter Try.func13, Try.ntmps13
  go_wp2_with fail
  refine (arith_exp a b c _ ha hb).mono ?_
  rintro e w' ⟨rfl, rfl⟩
  go_wp2_with fail
  go_ret2
  exact ⟨rfl, rfl⟩
theorem at_exp (a b : Int) (w : World) (ha : U.Ok a) (hb : U.Ok b) :
    Calls Try.prog 10 #[.int .i64 10, .int .u64 a, .int .u64 b] w fun e w' => e = .returned (.int .u64 (U.exp a b)) ∧ w = w' := by
  go_enter Try.func10, Try.ntmps10
  go_wp2_with fail
  refine (apply_exp a b 0 _ ha hb).mono ?_
  rintro e w' ⟨rfl, rfl⟩
  go_wp2_with fail
  go_ret
  exact ⟨rfl, rfl⟩
end Go.Proofs.Ytebfecnpkifgeaa
