/- Merged of Wq. Own work. -/
import Derived.Test.YtcgpdijpppcbiaaGreatDoorQ10
import Derived.Test.YtcgpdijpppcbiaaGreatDoorQ01
import Derived.Outline
import Derived.Lib.Hide
import Derived.OpenShut
import Derived.Deep.QuietTactic
import Derived.BigQuiet
import Derived.Test.YtcgpdijpppcbiaaGreatDoorProg
import Derived.Deep.Cut
import Derived.Deep.CutBlock
import Derived.Laws.Bits64
import Derived.Laws.Bits64b
namespace Go.Proofs.YtcgpdijpppcbiaaGreatDoor
open Go.RowKit
set_option linter.unusedVariables false
theorem ret_int {k : IntKind} {a b : Int} (h : a = b) : Ending.returned (.int k a) = .returned (.int k b) := by rw [h]
namespace U
def Ok (a : Int) : Prop := 0 ≤ a ∧ a ≤ 18446744073709551615
def add (a b : Int) : Int := (a + b) % 18446744073709551616
def sub (a b : Int) : Int := (a - b) % 18446744073709551616
def mul (a b : Int) : Int := (a * b) % 18446744073709551616
def div (a b : Int) : Int := if b = 0 then 0 else a / b
def mod (a b : Int) : Int := if b = 0 then 0 else a % b
def and (a b : Int) : Int := ((a.toNat &&& b.toNat : Nat) : Int)
def or (a b : Int) : Int := ((a.toNat ||| b.toNat : Nat) : Int)
def xor (a b : Int) : Int := ((a.toNat ^^^ b.toNat : Nat) : Int)
def not (a : Int) : Int := 18446744073709551615 - a
/-- The signed value. -/
def sg (a : Int) : Int := if a < 9223372036854775808 then a else a - 18446744073709551616
def b2 (p : Bool) : Int := if p then 1 else 0
def lt (a b : Int) : Int := b2 (decide (a < b))
def gt (a b : Int) : Int := b2 (decide (b < a))
def slt (a b : Int) : Int := b2 (decide (sg a < sg b))
def sgt (a b : Int) : Int := b2 (decide (sg b < sg a))
def eq (a b : Int) : Int := b2 (a == b)
def isz (a : Int) : Int := b2 (a == 0)
theorem mulL (x y m : Int) : (x % m * y) % m = (x * y) % m := by rw [Int.mul_emod, Int.emod_emod, ← Int.mul_emod]
theorem mulR (x y m : Int) : (x * (y % m)) % m = (x * y) % m := by rw [Int.mul_emod, Int.emod_emod, ← Int.mul_emod]
theorem b2_ok (p : Bool) : Ok (b2 p) := by cases p <;> simp [Ok, b2]
theorem add_ok (a b : Int) : Ok (add a b) := by unfold Ok add; omega
theorem sub_ok (a b : Int) : Ok (sub a b) := by unfold Ok sub; omega
theorem mul_ok (a b : Int) : Ok (mul a b) := by unfold Ok mul; omega
theorem not_ok {a : Int} (h : Ok a) : Ok (not a) := by unfold Ok not at *; omega
theorem and_ok {a b : Int} (h : Ok a) : Ok (and a b) := by
  unfold Ok and at *
  have := Nat.and_le_left (n := a.toNat) (m := b.toNat)
  omega
theorem or_ok {a b : Int} (h : Ok a) (k : Ok b) : Ok (or a b) := by
  unfold Ok or at *
  have := Nat.or_lt_two_pow (x := a.toNat) (y := b.toNat) (n := 64) (by omega) (by omega)
  omega
theorem xor_ok {a b : Int} (h : Ok a) (k : Ok b) : Ok (xor a b) := by
  unfold Ok xor at *
  have := Nat.xor_lt_two_pow (x := a.toNat) (y := b.toNat) (n := 64) (by omega) (by omega)
  omega
theorem wrap64_sg (a : Int) (h : Ok a) : wrap64 a = sg a := by
  unfold Ok at h; unfold wrap64 sg; split <;> omega
end U
open Go.RowKit
set_option linter.unusedVariables false
namespace U
def shl (a b : Int) : Int := (b * 2 ^ min a.toNat 64) % 18446744073709551616
def shr (a b : Int) : Int := b / 2 ^ min a.toNat 64
def sar (a b : Int) : Int := (sg b / 2 ^ min a.toNat 64) % 18446744073709551616
def byte (a b : Int) : Int := if 7 < a then 0 else b / 2 ^ (56 - 8 * a).toNat % 256
def exp (a b : Int) : Int := a ^ b.toNat % 18446744073709551616
theorem p2 (k : Nat) : (0 : Int) < 2 ^ k := Int.pow_pos (by decide)
theorem shl_ok {a b : Int} (h : Ok a) (k : Ok b) : Ok (shl a b) := by unfold Ok shl; omega
theorem sar_ok {a b : Int} (h : Ok a) (k : Ok b) : Ok (sar a b) := by unfold Ok sar; omega
theorem exp_ok {a b : Int} (h : Ok a) (k : Ok b) : Ok (exp a b) := by unfold Ok exp; omega
theorem shr_ok {a b : Int} (h : Ok a) (k : Ok b) : Ok (shr a b) := by
  unfold Ok shr at *
  have h1 := Int.ediv_nonneg k.1 (Int.le_of_lt (p2 (min a.toNat 64)))
  have h2 := Int.ediv_le_self (2 ^ min a.toNat 64) k.1
  omega
theorem div_ok {a b : Int} (h : Ok a) (k : Ok b) : Ok (div a b) := by
  unfold Ok div at *
  split
  · omega
  · have h1 := Int.ediv_nonneg h.1 k.1
    have h2 := Int.ediv_le_self b h.1
    omega
def sext (a b : Int) : Int := if 7 ≤ a then b else (sg (b * 2 ^ (56 - 8 * a).toNat % 18446744073709551616) / 2 ^ (56 - 8 * a).toNat) % 18446744073709551616
def sdiv (a b : Int) : Int := if b = 0 then 0 else (sg a).tdiv (sg b) % 18446744073709551616
def smod (a b : Int) : Int := if b = 0 then 0 else (sg a).tmod (sg b) % 18446744073709551616
theorem mulp_ok (b : Int) (k : Nat) : Ok (b * 2 ^ k % 18446744073709551616) := by unfold Ok; omega
theorem sg_ne {b : Int} (h : ¬ b = 0) (hb : Ok b) : sg b ≠ 0 := by unfold Ok at hb; unfold sg; split <;> omega
theorem and_255 (z : Int) (h0 : 0 ≤ z) (h1 : z < 18446744073709551616) : Go.bits .and .u64 z 255 = z % 256 := by go_bits2
theorem powmod (x m : Int) (k : Nat) : ∀ v : Int, (v * (x % m) ^ k) % m = (v * x ^ k) % m := by
  induction k with
  | zero => intro v; simp
  | succ k ih =>
    intro v
    rw [Int.pow_succ, Int.pow_succ, ← Int.mul_assoc, ← Int.mul_assoc, U.mulR, Int.mul_assoc, Int.mul_comm _ x, ← Int.mul_assoc, ih (v * x), Int.mul_assoc, Int.mul_assoc, Int.mul_comm x]
theorem step_even (A B V : Int) (h0 : 0 ≤ B) (h : B % 2 = 0) : (V * (A * A % 18446744073709551616) ^ (B / 2).toNat) % 18446744073709551616 = (V * A ^ B.toNat) % 18446744073709551616 := by
  rw [powmod, show B.toNat = (B / 2).toNat + (B / 2).toNat by omega, Int.pow_add, Int.mul_pow]
theorem step_odd (A B V : Int) (h0 : 0 ≤ B) (h : B % 2 = 1) : (V * A % 18446744073709551616 * (A * A % 18446744073709551616) ^ (B / 2).toNat) % 18446744073709551616 = (V * A ^ B.toNat) % 18446744073709551616 := by
  rw [U.mulL, powmod, show B.toNat = (B / 2).toNat + (B / 2).toNat + 1 by omega, Int.pow_succ, Int.pow_add, Int.mul_pow, Int.mul_assoc, Int.mul_comm A]
/-- What holds at a round's head of the power. -/
def PRel (a b : Int) (va vb vv : Value) : Prop :=
  ∃ A B V : Int, va = .int .u64 A ∧ vb = .int .u64 B ∧ vv = .int .u64 V ∧ Ok A ∧ Ok B ∧ Ok V ∧ (V * A ^ B.toNat) % 18446744073709551616 = a ^ b.toNat % 18446744073709551616
theorem mod_ok {a b : Int} (h : Ok a) (k : Ok b) : Ok (mod a b) := by
  unfold Ok mod at *
  split
  · omega
  · have h1 := Int.emod_nonneg a (show b ≠ 0 by assumption)
    have h2 := Int.emod_lt_of_pos a (show 0 < b by omega)
    omega
theorem sdiv_ok {a b : Int} (h : Ok a) (k : Ok b) : Ok (sdiv a b) := by unfold Ok sdiv; split <;> omega
theorem smod_ok {a b : Int} (h : Ok a) (k : Ok b) : Ok (smod a b) := by unfold Ok smod; split <;> omega
theorem sext_ok {a b : Int} (h : Ok a) (k : Ok b) : Ok (sext a b) := by unfold Ok sext at *; split <;> omega
theorem byte_ok {a b : Int} (h : Ok a) (k : Ok b) : Ok (byte a b) := by
  unfold Ok byte
  split <;> omega
end U
set_option maxHeartbeats 400000 in
theorem power_any (a b : Int) (w : World) (ha : U.Ok a) (hb : U.Ok b) :
    Calls Tryz.prog 97 #[.int .u64 a, .int .u64 b] w fun e w' => e = .returned (.int .u64 (U.exp a b)) ∧ w = w' := by
  obtain ⟨a0, a1⟩ := ha
  obtain ⟨b0, b1⟩ := hb
  go_enter Tryz.func97, Tryz.ntmps97
  go_wp2
  go_loop [0, 1, 5] (U.PRel a b) (fun _ vb _ => (intOf vb).toNat)
  case atStart => exact ⟨a, b, 1, rfl, rfl, rfl, ⟨a0, a1⟩, ⟨b0, b1⟩, by unfold U.Ok; decide, by rw [Int.one_mul]⟩
  case round =>
    obtain ⟨A, B, V, rfl, rfl, rfl, ⟨A0, A1⟩, ⟨B0, B1⟩, ⟨V0, V1⟩, hp⟩ := hrel
    have HP := Lib.hid hp
    clear hp
    by_cases hz : 0 < B
    · have h2 := and_one_u64 B B0 (by omega)
      by_cases ho : B % 2 = 1
      · have hob : (B % 2 == 1) = true := by simpa using ho
        clear ho
        go_wp2
        go_round
        case rel => exact ⟨A * A % 18446744073709551616, B / 2, V * A % 18446744073709551616, by rw [IntKind.wrap_u64], by simp, by rw [IntKind.wrap_u64], by unfold U.Ok; omega, by unfold U.Ok; omega, by unfold U.Ok; omega, by rw [← HP.out]; exact U.step_odd A B V B0 (by simpa using hob)⟩
        case measure => simp [intOf]; omega
      · have hob : (B % 2 == 1) = false := by simpa using ho
        clear ho
        go_wp2
        go_round
        case rel => exact ⟨A * A % 18446744073709551616, B / 2, V, by rw [IntKind.wrap_u64], by simp, rfl, by unfold U.Ok; omega, by unfold U.Ok; omega, ⟨V0, V1⟩, by rw [← HP.out]; exact U.step_even A B V B0 (by have := hob; simp at this; omega)⟩
        case measure => simp [intOf]; omega
    · have hB : B = 0 := by omega
      subst hB
      go_wp2
      go_ret
      refine ⟨ret_int ?_, rfl⟩
      have := HP.out
      simp at this
      unfold U.exp
      omega
set_option maxHeartbeats 400000 in
theorem arith_exp (a b c : Int) (w : World) (ha : U.Ok a) (hb : U.Ok b) :
    Calls Tryz.prog 87 #[.int .i64 10, .int .u64 a, .int .u64 b, .int .u64 c] w fun e w' => e = .returned (.int .u64 (U.exp a b)) ∧ w = w' := by
  go_enter Tryz.func87, Tryz.ntmps87
  go_wp2_with fail
  refine (power_any a b _ ha hb).mono ?_
  rintro e w' ⟨rfl, rfl⟩
  go_wp2_with fail
  go_ret
  exact ⟨rfl, rfl⟩
theorem apply_exp (a b c : Int) (w : World) (ha : U.Ok a) (hb : U.Ok b) :
    Calls Tryz.prog 81 #[.int .i64 10, .int .u64 a, .int .u64 b, .int .u64 c] w fun e w' => e = .returned (.tuple #[.int .u64 (U.exp a b), .nilIface]) ∧ w = w' := by
  go_enter Tryz.func81, Tryz.ntmps81
  go_wp2_with fail
  refine (arith_exp a b c _ ha hb).mono ?_
  rintro e w' ⟨rfl, rfl⟩
  go_wp2_with fail
  go_ret2
  exact ⟨rfl, rfl⟩
end Go.Proofs.YtcgpdijpppcbiaaGreatDoor
namespace Go.Proofs.YtcgpdijpppcbiaaGreatDoor
open Go.RowKit
set_option linter.unusedVariables false
end Go.Proofs.YtcgpdijpppcbiaaGreatDoor
namespace Go.Proofs.YtcgpdijpppcbiaaGreatDoor
set_option linter.unusedVariables false
namespace Dv
/-- One digit of a long division: B the base, v = y1 * B + y0, u = U * B + u1. -/
theorem est_top {B y1 y0 U u1 : Nat} (hu1 : u1 < B) (hy1 : 0 < y1) : (U * B + u1) / (y1 * B + y0) ≤ U / y1 := by
  have hv : 0 < y1 * B + y0 := by
    have : 0 < y1 * B := Nat.mul_pos hy1 (by omega)
    omega
  have h1 : U < (U / y1 + 1) * y1 := by
    have := Nat.lt_div_mul_add (a := U) hy1
    rw [Nat.add_mul, Nat.one_mul]; omega
  have h2 : (U + 1) * B ≤ (U / y1 + 1) * y1 * B := Nat.mul_le_mul_right _ h1
  have h3 : (U / y1 + 1) * y1 * B ≤ (U / y1 + 1) * (y1 * B + y0) := by
    rw [Nat.mul_add, ← Nat.mul_assoc]; omega
  have h4 : U * B + u1 < (U / y1 + 1) * (y1 * B + y0) := by
    have : (U + 1) * B = U * B + B := by rw [Nat.add_mul, Nat.one_mul]
    omega
  have h5 := (Nat.div_lt_iff_lt_mul hv).2 h4
  omega
theorem est_small {B y1 y0 U : Nat} (hy0 : y0 < B) (hy : B ≤ 2 * y1) (hU : U < y1 * B + y0) : U / y1 ≤ B + 1 := by
  rcases Nat.lt_or_ge (U / y1) (B + 2) with h | h
  · omega
  · exfalso
    have h1 := Nat.div_mul_le_self U y1
    have h2 : (B + 2) * y1 ≤ U / y1 * y1 := Nat.mul_le_mul_right _ h
    have h3 : (B + 2) * y1 = y1 * B + 2 * y1 := by rw [Nat.add_mul, Nat.mul_comm B y1]
    omega
theorem quo_lt {B v U u1 : Nat} (hu1 : u1 < B) (hU : U < v) : (U * B + u1) / v < B := by
  have hv : 0 < v := by omega
  rw [Nat.div_lt_iff_lt_mul hv]
  have h1 : (U + 1) * B ≤ v * B := Nat.mul_le_mul_right _ hU
  rw [Nat.add_mul, Nat.one_mul, Nat.mul_comm v B] at h1
  omega
/-- q * v against u, where U = q * y1 + r. -/
theorem prod_eq {B y1 y0 q r u1 : Nat} : q * (y1 * B + y0) + (B * r + u1) = (q * y1 + r) * B + u1 + q * y0 := by
  have e1 : q * (y1 * B + y0) = q * y1 * B + q * y0 := by rw [Nat.mul_add, Nat.mul_assoc]
  have e2 : (q * y1 + r) * B = q * y1 * B + r * B := Nat.add_mul _ _ _
  have e3 : B * r = r * B := Nat.mul_comm _ _
  omega
theorem stop_ok {B y1 y0 U u1 q r : Nat} (hv : 0 < y1 * B + y0) (hU : U = q * y1 + r) (hq : (U * B + u1) / (y1 * B + y0) ≤ q) (hc : q * y0 ≤ B * r + u1) : q = (U * B + u1) / (y1 * B + y0) := by
  have h := prod_eq (B := B) (y1 := y1) (y0 := y0) (q := q) (r := r) (u1 := u1)
  rw [← hU] at h
  have : q ≤ (U * B + u1) / (y1 * B + y0) := (Nat.le_div_iff_mul_le hv).2 (by omega)
  omega
theorem less_ok {B y1 y0 U u1 q r : Nat} (hv : 0 < y1 * B + y0) (hU : U = q * y1 + r) (hc : B * r + u1 < q * y0) : (U * B + u1) / (y1 * B + y0) ≤ q - 1 := by
  have h := prod_eq (B := B) (y1 := y1) (y0 := y0) (q := q) (r := r) (u1 := u1)
  rw [← hU] at h
  have : (U * B + u1) / (y1 * B + y0) < q := (Nat.div_lt_iff_lt_mul hv).2 (by omega)
  omega
theorem break_ok {B y1 y0 U u1 q r : Nat} (hv : 0 < y1 * B + y0) (hy0 : y0 < B) (hU : U = q * y1 + r) (hq : (U * B + u1) / (y1 * B + y0) ≤ q) (hqB : q ≤ B) (hr : B ≤ r) : q = (U * B + u1) / (y1 * B + y0) := by
  refine stop_ok hv hU hq ?_
  have h1 : q * y0 ≤ B * B := Nat.mul_le_mul hqB (by omega)
  have h2 : B * B ≤ B * r := Nat.mul_le_mul_left _ hr
  omega
theorem down {U q y1 r : Nat} (hU : U = q * y1 + r) (hq : 0 < q) : U = (q - 1) * y1 + (r + y1) := by
  obtain ⟨k, rfl⟩ : ∃ k, q = k + 1 := ⟨q - 1, by omega⟩
  rw [hU, Nat.add_sub_cancel, Nat.add_mul, Nat.one_mul]; omega
/-- Both digits. -/
theorem two_digits {B v U u1 u0 : Nat} (hv : 0 < v) (hB : 0 < B) (hu0 : u0 < B) :
    ((U * B + u1) * B + u0) / v = (U * B + u1) / v * B + ((U * B + u1) % v * B + u0) / v ∧ ((U * B + u1) * B + u0) % v = ((U * B + u1) % v * B + u0) % v := by
  generalize U * B + u1 = W
  have h := Nat.div_add_mod W v
  have e : W * B + u0 = W / v * B * v + (W % v * B + u0) := by
    have : W * B = (v * (W / v) + W % v) * B := by rw [h]
    rw [this, Nat.add_mul]
    have e2 : v * (W / v) * B = W / v * B * v := by rw [Nat.mul_comm v, Nat.mul_assoc, Nat.mul_comm v B, ← Nat.mul_assoc]
    omega
  have e3 : W * B + u0 = (W % v * B + u0) + W / v * B * v := by omega
  rw [e3]
  exact ⟨by rw [Nat.add_mul_div_right _ _ hv]; omega, Nat.add_mul_mod_self_right _ _ _⟩
/-- Made greater, both by the same factor. -/
theorem scaled {N y s : Nat} (hs : 0 < s) : N * s / (y * s) = N / y ∧ N * s % (y * s) / s = N % y := by
  constructor
  · exact Nat.mul_div_mul_right _ _ hs
  · rw [Nat.mul_mod_mul_right, Nat.mul_div_cancel _ hs]
/-- The shifted dividend's words. -/
theorem words {hi lo s : Nat} (hlo : lo < 2 ^ 64) (hs : s ≤ 64) : (hi * 2 ^ 64 + lo) * 2 ^ s = (hi * 2 ^ s + lo / 2 ^ (64 - s)) * 2 ^ 64 + lo * 2 ^ s % 2 ^ 64 := by
  have e1 : 2 ^ 64 = 2 ^ (64 - s) * 2 ^ s := by rw [← Nat.pow_add]; congr 1; omega
  have e2 : lo * 2 ^ s % 2 ^ 64 = lo % 2 ^ (64 - s) * 2 ^ s := by rw [e1, Nat.mul_mod_mul_right]
  have e3 := Nat.div_add_mod lo (2 ^ (64 - s))
  rw [e2, Nat.add_mul, Nat.add_mul]
  have e4 : lo * 2 ^ s = lo / 2 ^ (64 - s) * 2 ^ 64 + lo % 2 ^ (64 - s) * 2 ^ s := by
    calc lo * 2 ^ s = (2 ^ (64 - s) * (lo / 2 ^ (64 - s)) + lo % 2 ^ (64 - s)) * 2 ^ s := by rw [e3]
      _ = 2 ^ (64 - s) * (lo / 2 ^ (64 - s)) * 2 ^ s + lo % 2 ^ (64 - s) * 2 ^ s := Nat.add_mul _ _ _
      _ = lo / 2 ^ (64 - s) * 2 ^ 64 + lo % 2 ^ (64 - s) * 2 ^ s := by rw [e1, Nat.mul_comm (2 ^ (64 - s)), Nat.mul_assoc]
  have e5 : hi * 2 ^ 64 * 2 ^ s = hi * 2 ^ s * 2 ^ 64 := by rw [Nat.mul_assoc, Nat.mul_comm (2 ^ 64), ← Nat.mul_assoc]
  omega
/-- The bits that come from the low word lie below those of the high one. -/
theorem low_lt {lo s : Nat} (hlo : lo < 2 ^ 64) (hs : s ≤ 64) : lo / 2 ^ (64 - s) < 2 ^ s := by
  have e1 : 2 ^ 64 = 2 ^ (64 - s) * 2 ^ s := by rw [← Nat.pow_add]; congr 1; omega
  exact Nat.div_lt_of_lt_mul (by rw [← e1]; exact hlo)
end Dv
namespace Dv
/-- One bit more of a long division. -/
theorem bit_step {t b n : Nat} (hn : 0 < n) (hb : b < 2) : (2 * t + b) / n = 2 * (t / n) + (if n ≤ 2 * (t % n) + b then 1 else 0) ∧ (2 * t + b) % n = (if n ≤ 2 * (t % n) + b then 2 * (t % n) + b - n else 2 * (t % n) + b) := by
  have h := Nat.div_add_mod t n
  have hm := Nat.mod_lt t hn
  generalize t / n = q at *
  generalize t % n = r at *
  have e : 2 * t + b = (2 * r + b) + n * (2 * q) := by
    rw [← h, Nat.mul_add, Nat.mul_left_comm]; omega
  rw [e, Nat.add_mul_div_left _ _ hn, Nat.add_mul_mod_self_left]
  by_cases hc : n ≤ 2 * r + b
  · rw [if_pos hc, if_pos hc]
    have e2 : 2 * r + b = (2 * r + b - n) + n * 1 := by omega
    have h3 : 2 * r + b - n < n := by omega
    constructor
    · rw [e2, Nat.add_mul_div_left _ _ hn, Nat.div_eq_of_lt h3]; omega
    · rw [e2, Nat.add_mul_mod_self_left, Nat.mod_eq_of_lt h3]; omega
  · rw [if_neg hc, if_neg hc]
    have h3 : 2 * r + b < n := by omega
    exact ⟨by rw [Nat.div_eq_of_lt h3]; omega, Nat.mod_eq_of_lt h3⟩
/-- The next bit of a number, from above. -/
theorem top_step (N i : Nat) : N / 2 ^ i = 2 * (N / 2 ^ (i + 1)) + N / 2 ^ i % 2 := by
  rw [Nat.pow_succ, ← Nat.div_div_eq_div_mul]; omega
theorem bit_hi {h l i : Nat} (hl : l < 2 ^ 64) (hi : 64 ≤ i) : (h * 2 ^ 64 + l) / 2 ^ i % 2 = h / 2 ^ (i - 64) % 2 := by
  have e : 2 ^ i = 2 ^ 64 * 2 ^ (i - 64) := by rw [← Nat.pow_add]; congr 1; omega
  rw [e, ← Nat.div_div_eq_div_mul, Nat.mul_comm h, Nat.mul_add_div (by decide), Nat.div_eq_of_lt hl, Nat.add_zero]
theorem bit_lo {h l i : Nat} (hi : i < 64) : (h * 2 ^ 64 + l) / 2 ^ i % 2 = l / 2 ^ i % 2 := by
  have e : h * 2 ^ 64 = 2 ^ i * (2 * (h * 2 ^ (63 - i))) := by
    have : 2 ^ 64 = 2 ^ i * (2 * 2 ^ (63 - i)) := by rw [← Nat.pow_succ', ← Nat.pow_add]; congr 1; omega
    rw [this]
    rw [Nat.mul_left_comm h, Nat.mul_left_comm h 2]
  rw [e, Nat.mul_add_div (Nat.pos_of_ne_zero (by simp)), Nat.add_comm, Nat.add_mul_mod_self_left]
/-- A number's lowest k bits and the next one. -/
theorem mod_succ (T k : Nat) : T % 2 ^ (k + 1) = T % 2 ^ k + (if T.testBit k then 2 ^ k else 0) := by
  rw [Nat.mod_pow_succ, Nat.testBit_eq_decide_div_mod_eq]
  rcases Nat.mod_two_eq_zero_or_one (T / 2 ^ k) with h | h <;> simp [h]
theorem or_add {a k : Nat} (h : a < 2 ^ k) : a ||| 2 ^ k = a + 2 ^ k := by
  have := Nat.two_pow_add_eq_or_of_lt h 1
  rw [Nat.mul_one] at this
  rw [Nat.or_comm, ← this, Nat.add_comm]
end Dv
namespace Dv
/-- The five operations that turn bits, on naturals. -/
def nshl (a b : Nat) : Nat := b * 2 ^ min a 64 % 2 ^ 64
def nshr (a b : Nat) : Nat := b / 2 ^ min a 64
def nsar (a b : Nat) : Nat := if b < 2 ^ 63 then b / 2 ^ min a 64 else 2 ^ 64 - ((2 ^ 64 - (b + 1)) / 2 ^ min a 64 + 1)
def nsext (a b : Nat) : Nat := if 7 ≤ a then b else nsar (56 - 8 * a) (nshl (56 - 8 * a) b)
def nbyte (a b : Nat) : Nat := if 7 < a then 0 else b / 2 ^ (56 - 8 * a) % 256
theorem big_bit {b i : Nat} (hb : b < 2 ^ 64) (hi : 64 ≤ i) : b.testBit i = false :=
  Nat.testBit_lt_two_pow (Nat.lt_of_lt_of_le hb (Nat.pow_le_pow_right (by decide) hi))
theorem nshl_bit {a b i : Nat} (hi : i < 64) : (nshl a b).testBit i = (decide (a ≤ i) && b.testBit (i - a)) := by
  unfold nshl
  rw [Nat.testBit_mod_two_pow, Nat.testBit_mul_two_pow]
  by_cases h : a ≤ i
  · rw [show min a 64 = a by omega]; simp [hi, h]
  · have : ¬ min a 64 ≤ i := by omega
    simp [h, this]
theorem nshr_bit {a b i : Nat} (hb : b < 2 ^ 64) (hi : i < 64) : (nshr a b).testBit i = (decide (i + a < 64) && b.testBit (i + a)) := by
  unfold nshr
  rw [Nat.testBit_div_two_pow]
  by_cases h : i + a < 64
  · rw [show min a 64 = a by omega, Nat.add_comm i a]; simp [show a + i < 64 by omega]
  · rw [big_bit hb (by omega)]; simp [h]
theorem top_bit {b : Nat} (hb : b < 2 ^ 64) : b.testBit 63 = decide (2 ^ 63 ≤ b) := by
  rw [Nat.testBit_eq_decide_div_mod_eq]
  by_cases h : 2 ^ 63 ≤ b
  · have e : b / 2 ^ 63 = 1 := by omega
    simp [e, h]
  · have e : b / 2 ^ 63 = 0 := by omega
    simp [e, h]
theorem nsar_bit {a b i : Nat} (hb : b < 2 ^ 64) (hi : i < 64) : (nsar a b).testBit i = (if i + a < 64 then b.testBit (i + a) else b.testBit 63) := by
  unfold nsar
  have ht := top_bit hb
  by_cases h : b < 2 ^ 63
  · rw [if_pos h]
    have := nshr_bit (a := a) hb hi
    unfold nshr at this
    rw [this]
    split
    · rename_i h2; simp [h2]
    · rename_i h2; rw [ht]; simp [h2]; omega
  · rw [if_neg h]
    have h1 : (2 ^ 64 - (b + 1)) / 2 ^ min a 64 < 2 ^ 64 := Nat.lt_of_le_of_lt (Nat.div_le_self _ _) (by omega)
    rw [Nat.testBit_two_pow_sub_succ h1, Nat.testBit_div_two_pow, Nat.testBit_two_pow_sub_succ hb]
    by_cases h2 : i + a < 64
    · rw [if_pos h2, show min a 64 = a by omega, Nat.add_comm i a]
      simp [hi, show a + i < 64 by omega]
    · rw [if_neg h2, ht]
      generalize hm : min a 64 = m
      have h3 : decide (i + m < 64) = false := by rw [decide_eq_false_iff_not]; omega
      rw [h3]
      simp [hi]; omega
theorem nshl_lt (a b : Nat) : nshl a b < 2 ^ 64 := Nat.mod_lt _ (by decide)
theorem nsext_bit {a b i : Nat} (hi : i < 64) : (nsext a b).testBit i = b.testBit (if a < 8 then min i (8 * a + 7) else i) := by
  unfold nsext
  by_cases h : 7 ≤ a
  · rw [if_pos h]
    by_cases h8 : a < 8
    · rw [if_pos h8, show min i (8 * a + 7) = i by omega]
    · rw [if_neg h8]
  · rw [if_neg h, if_pos (by omega), nsar_bit (nshl_lt _ _) hi]
    by_cases h2 : i + (56 - 8 * a) < 64
    · rw [if_pos h2, nshl_bit h2, show min i (8 * a + 7) = i by omega]
      simp
    · rw [if_neg h2, nshl_bit (by decide), show min i (8 * a + 7) = 63 - (56 - 8 * a) by omega]
      simp; omega
theorem nbyte_bit {a b i : Nat} : (nbyte a b).testBit i = (decide (i < 8) && decide (a < 8) && b.testBit (56 - 8 * min a 7 + i)) := by
  unfold nbyte
  by_cases h : 7 < a
  · rw [if_pos h]; simp; omega
  · rw [if_neg h, show (256 : Nat) = 2 ^ 8 by decide, Nat.testBit_mod_two_pow, Nat.testBit_div_two_pow, show min a 7 = a by omega]
    simp [show a < 8 by omega, Nat.add_comm]
end Dv
namespace Dv
theorem pow_sq (a t M : Nat) : (a ^ t % M) * (a ^ t % M) % M = a ^ (2 * t) % M := by
  rw [← Nat.mul_mod, ← Nat.pow_add, Nat.two_mul]
theorem pow_one (a t M : Nat) : a ^ t % M * a % M = a ^ (t + 1) % M := by
  rw [Nat.pow_succ, Nat.mod_mul_mod]
/-- The school method on halves of 32 bits, as the document's words go. -/
theorem wide_words (x y : Nat) (hx : x < 18446744073709551616) (hy : y < 18446744073709551616) :
    (x % 4294967296) * (y % 4294967296) < 18446744073709551616 ∧
    (x / 4294967296) * (y % 4294967296) + (x % 4294967296) * (y % 4294967296) / 4294967296 < 18446744073709551616 ∧
    (x % 4294967296) * (y / 4294967296) + ((x / 4294967296) * (y % 4294967296) + (x % 4294967296) * (y % 4294967296) / 4294967296) % 4294967296 < 18446744073709551616 ∧
    (x / 4294967296) * (y / 4294967296) < 18446744073709551616 ∧
    (x / 4294967296) * (y / 4294967296) + ((x / 4294967296) * (y % 4294967296) + (x % 4294967296) * (y % 4294967296) / 4294967296) / 4294967296 < 18446744073709551616 ∧
    (x / 4294967296) * (y / 4294967296) + ((x / 4294967296) * (y % 4294967296) + (x % 4294967296) * (y % 4294967296) / 4294967296) / 4294967296 +
      ((x % 4294967296) * (y / 4294967296) + ((x / 4294967296) * (y % 4294967296) + (x % 4294967296) * (y % 4294967296) / 4294967296) % 4294967296) / 4294967296 = x * y / 18446744073709551616 ∧
    ((x % 4294967296) * (y / 4294967296) + ((x / 4294967296) * (y % 4294967296) + (x % 4294967296) * (y % 4294967296) / 4294967296) % 4294967296) % 4294967296 * 4294967296 + (x % 4294967296) * (y % 4294967296) % 4294967296 = x * y % 18446744073709551616 := by
  have e : x * y = (x / 4294967296) * (y / 4294967296) * 18446744073709551616 + ((x / 4294967296) * (y % 4294967296) + (x % 4294967296) * (y / 4294967296)) * 4294967296 + (x % 4294967296) * (y % 4294967296) := by
    have h1 : x * y = ((x / 4294967296) * 4294967296 + x % 4294967296) * ((y / 4294967296) * 4294967296 + y % 4294967296) := by rw [Nat.div_add_mod' x 4294967296, Nat.div_add_mod' y 4294967296]
    rw [h1]
    generalize x / 4294967296 = x1
    generalize x % 4294967296 = x0
    generalize y / 4294967296 = y1
    generalize y % 4294967296 = y0
    rw [Nat.add_mul, Nat.mul_add, Nat.mul_add, Nat.mul_mul_mul_comm, Nat.mul_right_comm x1 4294967296 y0, ← Nat.mul_assoc x0 y1 4294967296]
    omega
  have ha : (x / 4294967296) * (y / 4294967296) ≤ 4294967295 * 4294967295 := Nat.mul_le_mul (by omega) (by omega)
  have hb : (x / 4294967296) * (y % 4294967296) ≤ 4294967295 * 4294967295 := Nat.mul_le_mul (by omega) (by omega)
  have hc : (x % 4294967296) * (y / 4294967296) ≤ 4294967295 * 4294967295 := Nat.mul_le_mul (by omega) (by omega)
  have hd : (x % 4294967296) * (y % 4294967296) ≤ 4294967295 * 4294967295 := Nat.mul_le_mul (by omega) (by omega)
  rw [e]
  generalize (x / 4294967296) * (y / 4294967296) = a at *
  generalize (x / 4294967296) * (y % 4294967296) = b at *
  generalize (x % 4294967296) * (y / 4294967296) = c at *
  generalize (x % 4294967296) * (y % 4294967296) = d at *
  refine ⟨by omega, by omega, by omega, by omega, by omega, by omega, by omega⟩
/-- A signed word. -/
def sgn (a : Nat) : Int := if a < 9223372036854775808 then a else (a : Int) - 18446744073709551616
def mag (a : Nat) : Nat := if a < 9223372036854775808 then a else 18446744073709551616 - a
theorem sdiv_mag (a b : Nat) (ha : a < 18446744073709551616) (hb : b < 18446744073709551616) :
    (sgn a).tdiv (sgn b) % 18446744073709551616 = if (9223372036854775808 ≤ a) = (9223372036854775808 ≤ b) then ((mag a / mag b : Nat) : Int) else (0 - ((mag a / mag b : Nat) : Int)) % 18446744073709551616 := by
  have hm : mag a / mag b ≤ mag a := Nat.div_le_self _ _
  have hA : mag a ≤ 9223372036854775808 := by unfold mag; split <;> omega
  have key : ∀ m n : Nat, (m : Int).tdiv n = ((m / n : Nat) : Int) := fun m n => rfl
  by_cases h1 : a < 9223372036854775808 <;> by_cases h2 : b < 9223372036854775808
  · have e1 : sgn a = (mag a : Int) := by unfold sgn mag; rw [if_pos h1, if_pos h1]
    have e2 : sgn b = (mag b : Int) := by unfold sgn mag; rw [if_pos h2, if_pos h2]
    rw [e1, e2, key, if_pos (by simp; omega)]; generalize mag a / mag b = q at *; omega
  · have e1 : sgn a = (mag a : Int) := by unfold sgn mag; rw [if_pos h1, if_pos h1]
    have e2 : sgn b = -(mag b : Int) := by unfold sgn mag; rw [if_neg h2, if_neg h2]; omega
    rw [e1, e2, Int.tdiv_neg, key, if_neg (by simp; omega)]; omega
  · have e1 : sgn a = -(mag a : Int) := by unfold sgn mag; rw [if_neg h1, if_neg h1]; omega
    have e2 : sgn b = (mag b : Int) := by unfold sgn mag; rw [if_pos h2, if_pos h2]
    rw [e1, e2, Int.neg_tdiv, key, if_neg (by simp; omega)]; omega
  · have e1 : sgn a = -(mag a : Int) := by unfold sgn mag; rw [if_neg h1, if_neg h1]; omega
    have e2 : sgn b = -(mag b : Int) := by unfold sgn mag; rw [if_neg h2, if_neg h2]; omega
    rw [e1, e2, Int.neg_tdiv, Int.tdiv_neg, Int.neg_neg, key, if_pos (by simp; omega)]; generalize mag a / mag b = q at *; omega
theorem smod_mag (a b : Nat) (ha : a < 18446744073709551616) (hb : b < 18446744073709551616) :
    (sgn a).tmod (sgn b) % 18446744073709551616 = if 9223372036854775808 ≤ a then (0 - ((mag a % mag b : Nat) : Int)) % 18446744073709551616 else ((mag a % mag b : Nat) : Int) := by
  have hm : mag a % mag b ≤ mag a := Nat.mod_le _ _
  have hA : mag a ≤ 9223372036854775808 := by unfold mag; split <;> omega
  have key : ∀ m n : Nat, (m : Int).tmod n = ((m % n : Nat) : Int) := fun m n => rfl
  have e2 : ∀ x : Int, x.tmod (sgn b) = x.tmod (mag b : Int) := fun x => by
    unfold sgn mag; split
    · rfl
    · rename_i h
      rw [show ((18446744073709551616 - b : Nat) : Int) = -((b : Int) - 18446744073709551616) by omega, Int.tmod_neg]
  rw [e2]
  by_cases h1 : a < 9223372036854775808
  · have e1 : sgn a = (mag a : Int) := by unfold sgn mag; rw [if_pos h1, if_pos h1]
    rw [e1, key, if_neg (by omega)]; generalize mag a % mag b = q at *; omega
  · have e1 : sgn a = -(mag a : Int) := by unfold sgn mag; rw [if_neg h1, if_neg h1]; omega
    rw [e1, Int.neg_tmod, key, if_pos (by omega)]; generalize mag a % mag b = q at *; omega
end Dv
end Go.Proofs.YtcgpdijpppcbiaaGreatDoor
namespace Go.Proofs.YtcgpdijpppcbiaaGreatDoor
open Go.RowKit
set_option linter.unusedVariables false
namespace W1
theorem nat_le_u64 {a : Nat} (h : a < 18446744073709551616) : (a : Int) ≤ 18446744073709551615 := by omega
theorem or_bit (x b : Int) (h0 : 0 ≤ x) (h1 : x ≤ 18446744073709551615) (he : x % 2 = 0) (hb0 : 0 ≤ b) (hb : b ≤ 1) : Go.bits .or .u64 x b = x + b := by
  go_bits2
/-- The state of the loop: the bits from k on are done. -/
def RS (N n : Nat) (k : Nat) (q r : Value) : Prop := q = .int .u64 ((N / 2 ^ k / n % 18446744073709551616 : Nat) : Int) ∧ r = .int .u64 ((N / 2 ^ k % n : Nat) : Int)
end W1
end Go.Proofs.YtcgpdijpppcbiaaGreatDoor
namespace Go.Proofs.YtcgpdijpppcbiaaGreatDoor
open Go.RowKit
set_option linter.unusedVariables false
namespace W1
theorem q_of {U q y1 r : Nat} (h : U = q * y1 + r) (hr : r < y1) : U / y1 = q := by rw [h, Nat.mul_comm, Nat.mul_add_div (by omega), Nat.div_eq_of_lt hr, Nat.add_zero]
theorem and_mask (v : Int) (h0 : 0 ≤ v) (h1 : v ≤ 18446744073709551615) : Go.bits .and .u64 v 4294967295 = v % 4294967296 := by go_bits2
/-- A word and how far it stands below the top. -/
theorem norm_word (y : Nat) (h0 : 0 < y) (h1 : y < 2 ^ 64) : ∃ s : Nat, s ≤ 63 ∧ (64 : Int) - (Lib.bitLen y : Int) = (s : Int) ∧ 2 ^ 63 ≤ y * 2 ^ s ∧ y * 2 ^ s < 2 ^ 64 := by
  have hl := Lib.bitLen_le y 64 (by decide) h1
  have hlow : 0 < Lib.bitLen y := by rw [Lib.bitLen_half y (by omega) h1]; omega
  refine ⟨64 - Lib.bitLen y, by omega, by omega, ?_, ?_⟩
  · rcases Nat.lt_or_ge (y * 2 ^ (64 - Lib.bitLen y)) (2 ^ 63) with h | h
    · exfalso
      have e : 2 ^ 63 = 2 ^ (Lib.bitLen y - 1) * 2 ^ (64 - Lib.bitLen y) := by rw [← Nat.pow_add]; congr 1; omega
      rw [e] at h
      have h2 : y < 2 ^ (Lib.bitLen y - 1) := Nat.lt_of_mul_lt_mul_right h
      have := Lib.bitLen_le y (Lib.bitLen y - 1) (by omega) h2
      omega
    · exact h
  · have e : 2 ^ 64 = 2 ^ (Lib.bitLen y) * 2 ^ (64 - Lib.bitLen y) := by rw [← Nat.pow_add]; congr 1; omega
    rw [e]
    refine Nat.mul_lt_mul_of_pos_right ?_ (Nat.pos_of_ne_zero (by simp))
    rcases Nat.lt_or_ge y (2 ^ Lib.bitLen y) with h | h
    · exact h
    · exfalso
      rcases Nat.lt_or_ge (Lib.bitLen y) 64 with h64 | h64
      · have h3 := Lib.bitLen_shift (Lib.bitLen y) y h h1
        have h4 : 0 < y / 2 ^ Lib.bitLen y := Nat.div_pos h (Nat.pos_of_ne_zero (by simp))
        have h5 : 0 < Lib.bitLen (y / 2 ^ Lib.bitLen y) := by rw [Lib.bitLen_half _ (by omega) (Nat.lt_of_le_of_lt (Nat.div_le_self _ _) h1)]; omega
        omega
      · rw [show Lib.bitLen y = 64 from by omega] at h; omega
set_option maxHeartbeats 1000000 in
theorem div64_small (lo y : Nat) (w : World) (hlo : lo < 18446744073709551616) (hy0 : 0 < y) (hy : y < 18446744073709551616) :
    Calls Tryz.prog 100 #[.int .u64 0, .int .u64 lo, .int .u64 y] w fun e w' => e = .returned (.tuple #[.int .u64 ((lo / y : Nat) : Int), .int .u64 ((lo % y : Nat) : Int)]) ∧ ∃ n, w' = w.drewN n := by
  have hloI : (lo : Int) ≤ 18446744073709551615 := by omega
  have hyI : (y : Int) ≤ 18446744073709551615 := by omega
  have hy0I : (0 : Int) < (y : Int) := by omega
  have hz : ((y : Int) == 0) = false := by simp; omega
  have hq : ((lo / y : Nat) : Int) ≤ 18446744073709551615 := by have := Nat.div_le_self lo y; omega
  have hq0 := Int.natCast_nonneg (lo / y)
  rw [Int.natCast_ediv] at hq hq0
  have hw : IntKind.u64.wrap ((lo : Int) / (y : Int)) = (lo : Int) / (y : Int) := by
    rw [IntKind.wrap_u64]; exact Int.emod_eq_of_lt hq0 (by generalize (lo : Int) / (y : Int) = z at *; omega)
  clear hlo hy hq hq0
  go_enter Tryz.func100, Tryz.ntmps100
  go_upto_region 6 with (fail)
  go_quiet (fail)
  go_wp2
  go_ret2
  exact ⟨rfl, _, rfl⟩
set_option maxRecDepth 20000 in
set_option maxHeartbeats 2000000 in
theorem div64_great (hi lo y : Nat) (w : World) (hlo : lo < 18446744073709551616) (hh0 : 0 < hi) (hhy : hi < y) (hy : y < 18446744073709551616) :
    Calls Tryz.prog 100 #[.int .u64 hi, .int .u64 lo, .int .u64 y] w fun e w' => e = .returned (.tuple #[.int .u64 (((hi * 18446744073709551616 + lo) / y : Nat) : Int), .int .u64 (((hi * 18446744073709551616 + lo) % y : Nat) : Int)]) ∧ w = w' := by
  obtain ⟨RQ, hRQ⟩ : ∃ q, (hi * 18446744073709551616 + lo) / y = q := ⟨_, rfl⟩
  obtain ⟨RR, hRR⟩ : ∃ q, (hi * 18446744073709551616 + lo) % y = q := ⟨_, rfl⟩
  rw [hRQ, hRR]
  have HRQ := Lib.hid (And.intro hRQ hRR)
  clear hRQ hRR
  obtain ⟨s, hs, hsl, hv1, hv2⟩ := norm_word y (by omega) hy
  have hlz := Tryz.bits_LeadingZeros64 y w (by omega) (by omega)
  rw [Int.toNat_natCast, hsl] at hlz
  have HLZ := Lib.hid hlz
  obtain ⟨v, hv⟩ : ∃ v, y * 2 ^ s = v := ⟨_, rfl⟩
  rw [hv] at hv1 hv2
  have hyI : (y : Int) ≤ 18446744073709551615 := by omega
  have hhI : (hi : Int) ≤ 18446744073709551615 := by omega
  have hloI : (lo : Int) ≤ 18446744073709551615 := by omega
  have hz : ((y : Int) == 0) = false := by simp; omega
  have hz2 : ((hi : Int) == 0) = false := by simp; omega
  have hyy : decide (y ≤ hi) = false := by rw [decide_eq_false_iff_not]; omega
  have HP := Lib.hid (And.intro hlo (And.intro hh0 (And.intro hhy (And.intro hy (And.intro hv (And.intro hv1 hv2))))))
  have hsI : (s : Int) ≤ 63 := by omega
  have hc2 : ((2 ^ s : Nat) : Int) = (2 : Int) ^ s := by rw [Int.natCast_pow]; rfl
  have hv' : IntKind.u64.wrap ((y : Int) * 2 ^ s) = (v : Int) := by
    rw [← hc2, ← Int.natCast_mul, hv, IntKind.wrap_u64]; omega
  have hA2 : hi * 2 ^ s < v := by rw [← hv]; exact Nat.mul_lt_mul_of_pos_right hhy (Nat.pos_of_ne_zero (by simp))
  have hUv : hi * 2 ^ s + lo / 2 ^ (64 - s) < v := by
    have h1 := Dv.low_lt hlo (s := s) (by omega)
    have h2 : (hi + 1) * 2 ^ s ≤ y * 2 ^ s := Nat.mul_le_mul_right _ hhy
    rw [Nat.add_mul, Nat.one_mul, hv] at h2
    omega
  have hwords := Dv.words (hi := hi) hlo (s := s) (by omega)
  have hor0 : hi * 2 ^ s ||| lo / 2 ^ (64 - s) = hi * 2 ^ s + lo / 2 ^ (64 - s) := by
    rw [Nat.mul_comm hi]; exact (Nat.two_pow_add_eq_or_of_lt (Dv.low_lt hlo (s := s) (by omega)) hi).symm
  obtain ⟨A, hA⟩ : ∃ A, hi * 2 ^ s = A := ⟨_, rfl⟩
  obtain ⟨D, hD⟩ : ∃ D, lo / 2 ^ (64 - s) = D := ⟨_, rfl⟩
  obtain ⟨L, hL⟩ : ∃ L, lo * 2 ^ s % 2 ^ 64 = L := ⟨_, rfl⟩
  rw [hA, hD] at hwords hor0 hUv
  rw [hL] at hwords
  rw [hA] at hA2
  obtain ⟨U, hU⟩ : ∃ U, A + D = U := ⟨_, rfl⟩
  rw [hU] at hor0 hwords hUv
  have hLb : L < 2 ^ 64 := by rw [← hL]; exact Nat.mod_lt _ (by decide)
  have hh' : IntKind.u64.wrap ((hi : Int) * 2 ^ s) = (A : Int) := by
    rw [← hc2, ← Int.natCast_mul, hA, IntKind.wrap_u64]; omega
  have hl' : (lo : Int) / 2 ^ (64 - s) = (D : Int) := by rw [← hD, Int.natCast_ediv, Int.natCast_pow]; rfl
  have hL' : IntKind.u64.wrap ((lo : Int) * 2 ^ s) = (L : Int) := by
    rw [← hc2, ← Int.natCast_mul, IntKind.wrap_u64, ← hL]; omega
  have hor : Go.bits .or .u64 (A : Int) (D : Int) = (U : Int) := by rw [bits_or_u64_nat A D (by omega) (by omega), hor0]
  have hm := and_mask (v : Int) (by omega) (by omega)
  have hm2 := and_mask (L : Int) (by omega) (by omega)
  have HWD := Lib.hid (And.intro hwords (And.intro hUv (And.intro hLb (And.intro hv2 hv))))
  have hvI : (v : Int) ≤ 18446744073709551615 := by omega
  have hLI : (L : Int) ≤ 18446744073709551615 := by omega
  clear hlo hh0 hhy hy hv hv1 hv2 hsl hlz hc2 hA2 hwords hor0 hUv hLb hA hD hL hU
  go_enter Tryz.func100, Tryz.ntmps100
  go_upto_region 8 with (go_at_call 101; (with_reducible refine HLZ.out.mono ?_); rintro e w' ⟨rfl, hw'⟩; have hw2 := hw'.symm; clear hw'; subst hw2)
  go_upto_region 15 with (fail)
  clear hv' hh' hl' hL' hor hm hm2
  obtain ⟨y1, y0, hy1, hy0, hvv⟩ : ∃ y1 y0 : Nat, (v : Int) / 4294967296 = (y1 : Int) ∧ (v : Int) % 4294967296 = (y0 : Int) ∧ v = y1 * 4294967296 + y0 ∧ y0 < 4294967296 ∧ 2147483648 ≤ y1 ∧ y1 < 4294967296 := ⟨v / 4294967296, v % 4294967296, by omega, by omega, by have := HP.out; omega⟩
  obtain ⟨u1, u0, hu1, hu0, huu⟩ : ∃ u1 u0 : Nat, (L : Int) / 4294967296 = (u1 : Int) ∧ (L : Int) % 4294967296 = (u0 : Int) ∧ L = u1 * 4294967296 + u0 ∧ u0 < 4294967296 ∧ u1 < 4294967296 := ⟨L / 4294967296, L % 4294967296, by omega, by omega, by omega⟩
  rw [hy1, hy0, hu1, hu0]
  have HD := Lib.hid (And.intro hvv huu)
  clear hy1 hy0 hu1 hu0 hvv huu
  have HU1 := Lib.hid (show U < v from HWD.out.2.1)
  have hDD := HD.out
  have hu1B : u1 < 4294967296 := by omega
  have hu0B : u0 < 4294967296 := by omega
  have hy0B : y0 < 4294967296 := by omega
  have hy1B : 2147483648 ≤ y1 ∧ y1 < 4294967296 := by omega
  have hu1I : (u1 : Int) < 4294967296 := by omega
  have hu0I : (u0 : Int) < 4294967296 := by omega
  have hy0I : (y0 : Int) < 4294967296 := by omega
  have hy1I : (y1 : Int) < 4294967296 := by omega
  clear hDD
  have HI1 : Hid (U = U / y1 * y1 + U % y1 ∧ U % y1 < y1 ∧ U / y1 ≤ 4294967297) := Lib.hid ⟨by rw [Nat.mul_comm]; exact (Nat.div_add_mod U y1).symm, Nat.mod_lt _ (by omega), Dv.est_small (B := 4294967296) (y0 := y0) (by omega) (by omega) (by have := HU1.out; have := HD.out.1.1; omega)⟩
  obtain ⟨q1, hq1⟩ : ∃ q, U / y1 = q := ⟨_, rfl⟩
  obtain ⟨r1, hr1⟩ : ∃ r, U % y1 = r := ⟨_, rfl⟩
  rw [hq1, hr1] at HI1
  have hqI1 : (U : Int) / (y1 : Int) = (q1 : Int) := by rw [← hq1]; rfl
  obtain ⟨p1, hp1⟩ : ∃ p, q1 * y1 = p := ⟨_, rfl⟩
  have hpI1 : IntKind.u64.wrap ((q1 : Int) * (y1 : Int)) = (p1 : Int) := by
    rw [← Int.natCast_mul, hp1, IntKind.wrap_u64]
    have := HI1.out.1; rw [hp1] at this
    have := HU1.out; have := HP.out
    omega
  have hqb1 : (q1 : Int) ≤ 4294967297 := by have := HI1.out; omega
  have hle1 : (p1 : Int) ≤ (U : Int) := by have := HI1.out.1; rw [hp1] at this; omega
  have hsub1 : (U : Int) - (p1 : Int) = (r1 : Int) := by have := HI1.out.1; rw [hp1] at this; omega
  have hUI1 : (U : Int) ≤ 18446744073709551615 := by have := HU1.out; have := HP.out; omega
  have hy1I1 : (0 : Int) < (y1 : Int) := by omega
  have hy1z1 : ((y1 : Int) == 0) = false := by simp; omega
  have hq01 := HI1.out
  rw [hp1] at hq01
  have HE1 : Hid (U = q1 * y1 + r1 ∧ r1 < y1 ∧ q1 ≤ 4294967297) := Lib.hid (by have := HI1.out; exact this)
  clear hq1 hr1 hp1 HI1 hq01
  go_upto_region 17 with (fail)
  clear hqI1 hpI1 hsub1 hle1
  obtain ⟨Q1, hQ1⟩ : ∃ Q, (U * 4294967296 + u1) / v = Q := ⟨_, rfl⟩
  have HQ1 := Lib.hid hQ1
  have hQ1b : Q1 < 4294967296 := by rw [← hQ1]; exact Dv.quo_lt (by omega) (by have := HU1.out; omega)
  have hst1 : Q1 ≤ q1 := by
    have h := Dv.est_top (B := 4294967296) (y1 := y1) (y0 := y0) (U := U) (u1 := u1) (by omega) (by omega)
    rw [q_of HE1.out.1 HE1.out.2.1, ← show v = y1 * 4294967296 + y0 from HD.out.1.1, HQ1.out] at h
    exact h
  have HQ1b := Lib.hid hQ1b
  have hQ1I : (Q1 : Int) ≤ 4294967295 := by omega
  have HS1 : Hid (Q1 ≤ q1 ∧ U = q1 * y1 + r1 ∧ q1 ≤ 4294967297) := Lib.hid ⟨hst1, HE1.out.1, HE1.out.2.2⟩
  have hr1I : (r1 : Int) < 4294967296 := by have := HE1.out; omega
  have hq1I : (q1 : Int) ≤ 4294967297 := by have := HE1.out; omega
  clear hQ1 hst1 HE1 hQ1b
  go_loop [15, 16] (fun a b => ∃ q r : Nat, Hid (Q1 ≤ q ∧ U = q * y1 + r ∧ q ≤ 4294967297) ∧ (q : Int) ≤ 4294967297 ∧ (r : Int) < 4294967296 ∧ a = .int .u64 q ∧ b = .int .u64 r) (fun _ b => (4294967296 - intOf b).toNat)
  case atStart => exact ⟨q1, r1, HS1, hq1I, hr1I, rfl, rfl⟩
  case round =>
    obtain ⟨q, r, HR, hqI, hrI, rfl, rfl⟩ := hrel
    clear HS1 hr1I hq1I
    have hv0 : 0 < y1 * 4294967296 + y0 := by have := HD.out.1.1; omega
    by_cases c1 : (4294967296 : Int) ≤ (q : Int)
    · have hQ1 : Q1 ≤ q - 1 := by have := HQ1b.out; omega
      by_cases hb : (4294967296 : Int) ≤ (r : Int) + (y1 : Int)
      · have he : (q : Int) - 1 = (Q1 : Int) := by
          have h := Dv.break_ok (B := 4294967296) (y1 := y1) (y0 := y0) (U := U) (u1 := u1) (q := q - 1) (r := r + y1) hv0 (by omega) (Dv.down HR.out.2.1 (by omega)) (by rw [← show v = y1 * 4294967296 + y0 from HD.out.1.1, HQ1.out]; exact hQ1) (by omega) (by omega)
          rw [← show v = y1 * 4294967296 + y0 from HD.out.1.1, HQ1.out] at h
          omega
        clear hQ1 HR hv0
        go_upto_region 21 with (fail)
        clear he hb c1 hqI hrI
        obtain ⟨U2, hU2⟩ : ∃ R, (U * 4294967296 + u1) % v = R := ⟨_, rfl⟩
        have hdm5 : Q1 * v + U2 = U * 4294967296 + u1 := by rw [← HQ1.out, ← hU2, Nat.mul_comm]; exact Nat.div_add_mod _ _
        have hU2b : U2 < v := by rw [← hU2]; exact Nat.mod_lt _ (by have := HP.out; omega)
        have HU2 := Lib.hid (And.intro hU2 hU2b)
        obtain ⟨Y5, hY5⟩ : ∃ Y, Q1 * v = Y := ⟨_, rfl⟩
        rw [hY5] at hdm5
        obtain ⟨a5, ha5⟩ : ∃ a : Nat, IntKind.u64.wrap ((U : Int) * 4294967296) = (a : Int) := ⟨U * 4294967296 % 18446744073709551616, by rw [IntKind.wrap_u64]; omega⟩
        obtain ⟨b5, hb5⟩ : ∃ b : Nat, IntKind.u64.wrap ((a5 : Int) + (u1 : Int)) = (b : Int) := ⟨(a5 + u1) % 18446744073709551616, by rw [IntKind.wrap_u64]; omega⟩
        obtain ⟨c5, hc5⟩ : ∃ c : Nat, IntKind.u64.wrap ((Q1 : Int) * (v : Int)) = (c : Int) := ⟨Y5 % 18446744073709551616, by rw [← Int.natCast_mul, hY5, IntKind.wrap_u64]; omega⟩
        have hd5 : IntKind.u64.wrap ((b5 : Int) - (c5 : Int)) = (U2 : Int) := by
          have e3 := hc5
          rw [← Int.natCast_mul, hY5] at e3
          have e1 := ha5
          have e2 := hb5
          rw [IntKind.wrap_u64] at e1 e2 e3 ⊢
          have := HP.out
          omega
        clear hdm5 hY5 hU2
        have hU2I : (U2 : Int) ≤ 18446744073709551615 := by have := HP.out; omega
        have HU3 := Lib.hid hU2b
        have HI2 : Hid (U2 = U2 / y1 * y1 + U2 % y1 ∧ U2 % y1 < y1 ∧ U2 / y1 ≤ 4294967297) := Lib.hid ⟨by rw [Nat.mul_comm]; exact (Nat.div_add_mod U2 y1).symm, Nat.mod_lt _ (by omega), Dv.est_small (B := 4294967296) (y0 := y0) (by omega) (by omega) (by have := HU2.out.2; have := HD.out.1.1; omega)⟩
        obtain ⟨q2, hq2⟩ : ∃ q, U2 / y1 = q := ⟨_, rfl⟩
        obtain ⟨r2, hr2⟩ : ∃ r, U2 % y1 = r := ⟨_, rfl⟩
        rw [hq2, hr2] at HI2
        have hqI2 : (U2 : Int) / (y1 : Int) = (q2 : Int) := by rw [← hq2]; rfl
        obtain ⟨p2, hp2⟩ : ∃ p, q2 * y1 = p := ⟨_, rfl⟩
        have hpI2 : IntKind.u64.wrap ((q2 : Int) * (y1 : Int)) = (p2 : Int) := by
          rw [← Int.natCast_mul, hp2, IntKind.wrap_u64]
          have := HI2.out.1; rw [hp2] at this
          have := HU2.out.2; have := HP.out
          omega
        have hqb2 : (q2 : Int) ≤ 4294967297 := by have := HI2.out; omega
        have hle2 : (p2 : Int) ≤ (U2 : Int) := by have := HI2.out.1; rw [hp2] at this; omega
        have hsub2 : (U2 : Int) - (p2 : Int) = (r2 : Int) := by have := HI2.out.1; rw [hp2] at this; omega
        have hUI2 : (U2 : Int) ≤ 18446744073709551615 := by have := HU2.out.2; have := HP.out; omega
        have hy1I2 : (0 : Int) < (y1 : Int) := by omega
        have hy1z2 : ((y1 : Int) == 0) = false := by simp; omega
        have hq02 := HI2.out
        rw [hp2] at hq02
        have HE2 : Hid (U2 = q2 * y1 + r2 ∧ r2 < y1 ∧ q2 ≤ 4294967297) := Lib.hid (by have := HI2.out; exact this)
        clear hq2 hr2 hp2 HI2 hq02
        go_upto_region 24 with (fail)
        clear hqI2 hpI2 hsub2 hle2 hd5 hc5 hb5 ha5
        obtain ⟨Q2, hQ2⟩ : ∃ Q, (U2 * 4294967296 + u0) / v = Q := ⟨_, rfl⟩
        have HQ2 := Lib.hid hQ2
        have hQ2b : Q2 < 4294967296 := by rw [← hQ2]; exact Dv.quo_lt (by omega) (by have := HU3.out; omega)
        have hst3 : Q2 ≤ q2 := by
          have h := Dv.est_top (B := 4294967296) (y1 := y1) (y0 := y0) (U := U2) (u1 := u0) (by omega) (by omega)
          rw [q_of HE2.out.1 HE2.out.2.1, ← show v = y1 * 4294967296 + y0 from HD.out.1.1, HQ2.out] at h
          exact h
        have HQ2b := Lib.hid hQ2b
        have hQ2I : (Q2 : Int) ≤ 4294967295 := by omega
        have HS3 : Hid (Q2 ≤ q2 ∧ U2 = q2 * y1 + r2 ∧ q2 ≤ 4294967297) := Lib.hid ⟨hst3, HE2.out.1, HE2.out.2.2⟩
        have hr2I : (r2 : Int) < 4294967296 := by have := HE2.out; omega
        have hq2I : (q2 : Int) ≤ 4294967297 := by have := HE2.out; omega
        clear hQ2 hst3 HE2 hQ2b
        go_loop [18, 16] (fun a b => ∃ q r : Nat, Hid (Q2 ≤ q ∧ U2 = q * y1 + r ∧ q ≤ 4294967297) ∧ (q : Int) ≤ 4294967297 ∧ (r : Int) < 4294967296 ∧ a = .int .u64 q ∧ b = .int .u64 r) (fun _ b => (4294967296 - intOf b).toNat)
        case atStart => exact ⟨q2, r2, HS3, hq2I, hr2I, rfl, rfl⟩
        case round =>
          obtain ⟨q, r, HR, hqI, hrI, rfl, rfl⟩ := hrel
          clear HS3 hr2I hq2I
          have hv0 : 0 < y1 * 4294967296 + y0 := by have := HD.out.1.1; omega
          by_cases c1 : (4294967296 : Int) ≤ (q : Int)
          · have hQ1 : Q2 ≤ q - 1 := by have := HQ2b.out; omega
            by_cases hb : (4294967296 : Int) ≤ (r : Int) + (y1 : Int)
            · have he : (q : Int) - 1 = (Q2 : Int) := by
                have h := Dv.break_ok (B := 4294967296) (y1 := y1) (y0 := y0) (U := U2) (u1 := u0) (q := q - 1) (r := r + y1) hv0 (by omega) (Dv.down HR.out.2.1 (by omega)) (by rw [← show v = y1 * 4294967296 + y0 from HD.out.1.1, HQ2.out]; exact hQ1) (by omega) (by omega)
                rw [← show v = y1 * 4294967296 + y0 from HD.out.1.1, HQ2.out] at h
                omega
              clear hQ1 HR hv0
              go_upto_region 28 with (fail)
              clear he hb c1 hqI hrI
              obtain ⟨R2, hR2⟩ : ∃ R, (U2 * 4294967296 + u0) % v = R := ⟨_, rfl⟩
              have hdm6 : Q2 * v + R2 = U2 * 4294967296 + u0 := by rw [← HQ2.out, ← hR2, Nat.mul_comm]; exact Nat.div_add_mod _ _
              have hR2b : R2 < v := by rw [← hR2]; exact Nat.mod_lt _ (by have := HP.out; omega)
              have HR2 := Lib.hid (And.intro hR2 hR2b)
              obtain ⟨Y6, hY6⟩ : ∃ Y, Q2 * v = Y := ⟨_, rfl⟩
              rw [hY6] at hdm6
              obtain ⟨a6, ha6⟩ : ∃ a : Nat, IntKind.u64.wrap ((U2 : Int) * 4294967296) = (a : Int) := ⟨U2 * 4294967296 % 18446744073709551616, by rw [IntKind.wrap_u64]; omega⟩
              obtain ⟨b6, hb6⟩ : ∃ b : Nat, IntKind.u64.wrap ((a6 : Int) + (u0 : Int)) = (b : Int) := ⟨(a6 + u0) % 18446744073709551616, by rw [IntKind.wrap_u64]; omega⟩
              obtain ⟨c6, hc6⟩ : ∃ c : Nat, IntKind.u64.wrap ((Q2 : Int) * (v : Int)) = (c : Int) := ⟨Y6 % 18446744073709551616, by rw [← Int.natCast_mul, hY6, IntKind.wrap_u64]; omega⟩
              have hd6 : IntKind.u64.wrap ((b6 : Int) - (c6 : Int)) = (R2 : Int) := by
                have e3 := hc6
                rw [← Int.natCast_mul, hY6] at e3
                have e1 := ha6
                have e2 := hb6
                rw [IntKind.wrap_u64] at e1 e2 e3 ⊢
                have := HP.out
                omega
              clear hdm6 hY6 hR2
              have hR2I : (R2 : Int) ≤ 18446744073709551615 := by have := HP.out; omega
              have hfin : Q1 * 4294967296 + Q2 = (hi * 18446744073709551616 + lo) / y ∧ R2 / 2 ^ s = (hi * 18446744073709551616 + lo) % y := by
                have hs2 : 0 < 2 ^ s := Nat.pos_of_ne_zero (by simp)
                have h1 := Dv.scaled (N := hi * 18446744073709551616 + lo) (y := y) hs2
                have h2 := HWD.out.1
                have h3 := HWD.out.2.2.2.2
                rw [h3] at h1
                have h4 := Dv.two_digits (B := 4294967296) (v := v) (U := U) (u1 := u1) (u0 := u0) (by have := HP.out; omega) (by decide) (by omega)
                rw [HQ1.out, HU2.out.1, HQ2.out, HR2.out.1] at h4
                have h5 : (hi * 18446744073709551616 + lo) * 2 ^ s = (U * 4294967296 + u1) * 4294967296 + u0 := by
                  have h6 : (hi * 18446744073709551616 + lo) * 2 ^ s = U * 2 ^ 64 + L := h2
                  rw [h6, Nat.add_mul, Nat.mul_assoc]
                  have := HD.out.2
                  omega
                rw [h5, h4.1, h4.2] at h1
                exact ⟨h1.1, h1.2⟩
              have e1 : (RQ : Int) = (Q1 : Int) * 4294967296 + (Q2 : Int) := by rw [← HRQ.out.1, ← hfin.1]; simp
              have e2 : (RR : Int) = (R2 : Int) / 2 ^ s := by rw [← HRQ.out.2, ← hfin.2, Int.natCast_ediv, Int.natCast_pow]; rfl
              have HFN := Lib.hid (And.intro e1 e2)
              clear hfin e1 e2
              go_wp2
              go_ret2
              rw [HFN.out.1, HFN.out.2]
              exact ⟨rfl, rfl⟩
            · have HN : Hid (Q2 ≤ q - 1 ∧ U2 = (q - 1) * y1 + (r + y1) ∧ q - 1 ≤ 4294967297) := Lib.hid ⟨hQ1, Dv.down HR.out.2.1 (by omega), by omega⟩
              have hb' : decide ((4294967296 : Int) ≤ (r : Int) + (y1 : Int)) = false ∧ Hid (¬ (4294967296 : Int) ≤ (r : Int) + (y1 : Int)) := ⟨by rw [decide_eq_false_iff_not]; exact hb, Lib.hid hb⟩
              obtain ⟨hb', HBb⟩ := hb'
              clear hQ1 HR hb hv0
              go_wp2
              go_round
              case rel => exact ⟨q - 1, r + y1, HN, by omega, by have := HBb.out; omega, by congr 1; omega, by congr 1⟩
              case measure => first | (simp [intOf]; done) | (simp [intOf]; omega)
          · obtain ⟨P, hP⟩ : ∃ P, q * y0 = P := ⟨_, rfl⟩
            have hPb : P ≤ 4294967295 * 4294967295 := by rw [← hP]; exact Nat.mul_le_mul (by omega) (by omega)
            have hPI : IntKind.u64.wrap ((q : Int) * (y0 : Int)) = (P : Int) := by rw [← Int.natCast_mul, hP, IntKind.wrap_u64]; omega
            have hqs : (q : Int) < 4294967296 := by omega
            have hP2 : (P : Int) ≤ 18446744065119617025 := by omega
            clear hPb c1
            by_cases c2 : (4294967296 : Int) * (r : Int) + (u0 : Int) < (P : Int)
            · have hQ1 : Q2 ≤ q - 1 := by
                have h := Dv.less_ok (B := 4294967296) (y1 := y1) (y0 := y0) (U := U2) (u1 := u0) hv0 HR.out.2.1 (by rw [hP]; omega)
                rw [← show v = y1 * 4294967296 + y0 from HD.out.1.1, HQ2.out] at h
                exact h
              have hq1 : 1 ≤ q := by
                rcases Nat.eq_zero_or_pos q with h | h
                · rw [h, Nat.zero_mul] at hP; omega
                · exact h
              have hq1I : (1 : Int) ≤ (q : Int) := by omega
              by_cases hb : (4294967296 : Int) ≤ (r : Int) + (y1 : Int)
              · have he : (q : Int) - 1 = (Q2 : Int) := by
                  have h := Dv.break_ok (B := 4294967296) (y1 := y1) (y0 := y0) (U := U2) (u1 := u0) (q := q - 1) (r := r + y1) hv0 (by omega) (Dv.down HR.out.2.1 (by omega)) (by rw [← show v = y1 * 4294967296 + y0 from HD.out.1.1, HQ2.out]; exact hQ1) (by omega) (by omega)
                  rw [← show v = y1 * 4294967296 + y0 from HD.out.1.1, HQ2.out] at h
                  omega
                clear hQ1 HR hq1 hP hv0
                go_upto_region 28 with (fail)
                clear he hb c2 hqI hrI hPI hP2 hqs hq1I
                obtain ⟨R2, hR2⟩ : ∃ R, (U2 * 4294967296 + u0) % v = R := ⟨_, rfl⟩
                have hdm6 : Q2 * v + R2 = U2 * 4294967296 + u0 := by rw [← HQ2.out, ← hR2, Nat.mul_comm]; exact Nat.div_add_mod _ _
                have hR2b : R2 < v := by rw [← hR2]; exact Nat.mod_lt _ (by have := HP.out; omega)
                have HR2 := Lib.hid (And.intro hR2 hR2b)
                obtain ⟨Y6, hY6⟩ : ∃ Y, Q2 * v = Y := ⟨_, rfl⟩
                rw [hY6] at hdm6
                obtain ⟨a6, ha6⟩ : ∃ a : Nat, IntKind.u64.wrap ((U2 : Int) * 4294967296) = (a : Int) := ⟨U2 * 4294967296 % 18446744073709551616, by rw [IntKind.wrap_u64]; omega⟩
                obtain ⟨b6, hb6⟩ : ∃ b : Nat, IntKind.u64.wrap ((a6 : Int) + (u0 : Int)) = (b : Int) := ⟨(a6 + u0) % 18446744073709551616, by rw [IntKind.wrap_u64]; omega⟩
                obtain ⟨c6, hc6⟩ : ∃ c : Nat, IntKind.u64.wrap ((Q2 : Int) * (v : Int)) = (c : Int) := ⟨Y6 % 18446744073709551616, by rw [← Int.natCast_mul, hY6, IntKind.wrap_u64]; omega⟩
                have hd6 : IntKind.u64.wrap ((b6 : Int) - (c6 : Int)) = (R2 : Int) := by
                  have e3 := hc6
                  rw [← Int.natCast_mul, hY6] at e3
                  have e1 := ha6
                  have e2 := hb6
                  rw [IntKind.wrap_u64] at e1 e2 e3 ⊢
                  have := HP.out
                  omega
                clear hdm6 hY6 hR2
                have hR2I : (R2 : Int) ≤ 18446744073709551615 := by have := HP.out; omega
                have hfin : Q1 * 4294967296 + Q2 = (hi * 18446744073709551616 + lo) / y ∧ R2 / 2 ^ s = (hi * 18446744073709551616 + lo) % y := by
                  have hs2 : 0 < 2 ^ s := Nat.pos_of_ne_zero (by simp)
                  have h1 := Dv.scaled (N := hi * 18446744073709551616 + lo) (y := y) hs2
                  have h2 := HWD.out.1
                  have h3 := HWD.out.2.2.2.2
                  rw [h3] at h1
                  have h4 := Dv.two_digits (B := 4294967296) (v := v) (U := U) (u1 := u1) (u0 := u0) (by have := HP.out; omega) (by decide) (by omega)
                  rw [HQ1.out, HU2.out.1, HQ2.out, HR2.out.1] at h4
                  have h5 : (hi * 18446744073709551616 + lo) * 2 ^ s = (U * 4294967296 + u1) * 4294967296 + u0 := by
                    have h6 : (hi * 18446744073709551616 + lo) * 2 ^ s = U * 2 ^ 64 + L := h2
                    rw [h6, Nat.add_mul, Nat.mul_assoc]
                    have := HD.out.2
                    omega
                  rw [h5, h4.1, h4.2] at h1
                  exact ⟨h1.1, h1.2⟩
                have e1 : (RQ : Int) = (Q1 : Int) * 4294967296 + (Q2 : Int) := by rw [← HRQ.out.1, ← hfin.1]; simp
                have e2 : (RR : Int) = (R2 : Int) / 2 ^ s := by rw [← HRQ.out.2, ← hfin.2, Int.natCast_ediv, Int.natCast_pow]; rfl
                have HFN := Lib.hid (And.intro e1 e2)
                clear hfin e1 e2
                go_wp2
                go_ret2
                rw [HFN.out.1, HFN.out.2]
                exact ⟨rfl, rfl⟩
              · have HN : Hid (Q2 ≤ q - 1 ∧ U2 = (q - 1) * y1 + (r + y1) ∧ q - 1 ≤ 4294967297) := Lib.hid ⟨hQ1, Dv.down HR.out.2.1 hq1, by omega⟩
                have hb' : decide ((4294967296 : Int) ≤ (r : Int) + (y1 : Int)) = false ∧ Hid (¬ (4294967296 : Int) ≤ (r : Int) + (y1 : Int)) := ⟨by rw [decide_eq_false_iff_not]; exact hb, Lib.hid hb⟩
                obtain ⟨hb', HBb⟩ := hb'
                clear hQ1 HR hb hP hv0
                go_wp2
                go_round
                case rel => exact ⟨q - 1, r + y1, HN, by omega, by have := HBb.out; omega, by congr 1; omega, by congr 1⟩
                case measure => first | (simp [intOf]; done) | (simp [intOf]; omega)
            · have he : q = Q2 := by
                have h := Dv.stop_ok (B := 4294967296) (y1 := y1) (y0 := y0) (U := U2) (u1 := u0) (q := q) (r := r) hv0 HR.out.2.1 (by rw [← show v = y1 * 4294967296 + y0 from HD.out.1.1, HQ2.out]; exact HR.out.1) (by rw [hP]; omega)
                rw [← show v = y1 * 4294967296 + y0 from HD.out.1.1, HQ2.out] at h
                exact h
              have c2' : decide ((4294967296 : Int) * (r : Int) + (u0 : Int) < (P : Int)) = false := by rw [decide_eq_false_iff_not]; exact c2
              have HE9 := Lib.hid he.symm
              have hqs' : decide ((4294967296 : Int) ≤ (q : Int)) = false := by rw [decide_eq_false_iff_not]; omega
              clear HR c2 hP hv0 he hqs
              go_upto_region 28 with (fail)
              clear c2' hqI hrI hPI hP2 hqs'
              have he2 := HE9.out
              clear HE9
              subst he2
              obtain ⟨R2, hR2⟩ : ∃ R, (U2 * 4294967296 + u0) % v = R := ⟨_, rfl⟩
              have hdm6 : Q2 * v + R2 = U2 * 4294967296 + u0 := by rw [← HQ2.out, ← hR2, Nat.mul_comm]; exact Nat.div_add_mod _ _
              have hR2b : R2 < v := by rw [← hR2]; exact Nat.mod_lt _ (by have := HP.out; omega)
              have HR2 := Lib.hid (And.intro hR2 hR2b)
              obtain ⟨Y6, hY6⟩ : ∃ Y, Q2 * v = Y := ⟨_, rfl⟩
              rw [hY6] at hdm6
              obtain ⟨a6, ha6⟩ : ∃ a : Nat, IntKind.u64.wrap ((U2 : Int) * 4294967296) = (a : Int) := ⟨U2 * 4294967296 % 18446744073709551616, by rw [IntKind.wrap_u64]; omega⟩
              obtain ⟨b6, hb6⟩ : ∃ b : Nat, IntKind.u64.wrap ((a6 : Int) + (u0 : Int)) = (b : Int) := ⟨(a6 + u0) % 18446744073709551616, by rw [IntKind.wrap_u64]; omega⟩
              obtain ⟨c6, hc6⟩ : ∃ c : Nat, IntKind.u64.wrap ((Q2 : Int) * (v : Int)) = (c : Int) := ⟨Y6 % 18446744073709551616, by rw [← Int.natCast_mul, hY6, IntKind.wrap_u64]; omega⟩
              have hd6 : IntKind.u64.wrap ((b6 : Int) - (c6 : Int)) = (R2 : Int) := by
                have e3 := hc6
                rw [← Int.natCast_mul, hY6] at e3
                have e1 := ha6
                have e2 := hb6
                rw [IntKind.wrap_u64] at e1 e2 e3 ⊢
                have := HP.out
                omega
              clear hdm6 hY6 hR2
              have hR2I : (R2 : Int) ≤ 18446744073709551615 := by have := HP.out; omega
              have hfin : Q1 * 4294967296 + Q2 = (hi * 18446744073709551616 + lo) / y ∧ R2 / 2 ^ s = (hi * 18446744073709551616 + lo) % y := by
                have hs2 : 0 < 2 ^ s := Nat.pos_of_ne_zero (by simp)
                have h1 := Dv.scaled (N := hi * 18446744073709551616 + lo) (y := y) hs2
                have h2 := HWD.out.1
                have h3 := HWD.out.2.2.2.2
                rw [h3] at h1
                have h4 := Dv.two_digits (B := 4294967296) (v := v) (U := U) (u1 := u1) (u0 := u0) (by have := HP.out; omega) (by decide) (by omega)
                rw [HQ1.out, HU2.out.1, HQ2.out, HR2.out.1] at h4
                have h5 : (hi * 18446744073709551616 + lo) * 2 ^ s = (U * 4294967296 + u1) * 4294967296 + u0 := by
                  have h6 : (hi * 18446744073709551616 + lo) * 2 ^ s = U * 2 ^ 64 + L := h2
                  rw [h6, Nat.add_mul, Nat.mul_assoc]
                  have := HD.out.2
                  omega
                rw [h5, h4.1, h4.2] at h1
                exact ⟨h1.1, h1.2⟩
              have e1 : (RQ : Int) = (Q1 : Int) * 4294967296 + (Q2 : Int) := by rw [← HRQ.out.1, ← hfin.1]; simp
              have e2 : (RR : Int) = (R2 : Int) / 2 ^ s := by rw [← HRQ.out.2, ← hfin.2, Int.natCast_ediv, Int.natCast_pow]; rfl
              have HFN := Lib.hid (And.intro e1 e2)
              clear hfin e1 e2
              go_wp2
              go_ret2
              rw [HFN.out.1, HFN.out.2]
              exact ⟨rfl, rfl⟩
      · have HN : Hid (Q1 ≤ q - 1 ∧ U = (q - 1) * y1 + (r + y1) ∧ q - 1 ≤ 4294967297) := Lib.hid ⟨hQ1, Dv.down HR.out.2.1 (by omega), by omega⟩
        have hb' : decide ((4294967296 : Int) ≤ (r : Int) + (y1 : Int)) = false ∧ Hid (¬ (4294967296 : Int) ≤ (r : Int) + (y1 : Int)) := ⟨by rw [decide_eq_false_iff_not]; exact hb, Lib.hid hb⟩
        obtain ⟨hb', HBb⟩ := hb'
        clear hQ1 HR hb hv0
        go_wp2
        go_round
        case rel => exact ⟨q - 1, r + y1, HN, by omega, by have := HBb.out; omega, by congr 1; omega, by congr 1⟩
        case measure => first | (simp [intOf]; done) | (simp [intOf]; omega)
    · obtain ⟨P, hP⟩ : ∃ P, q * y0 = P := ⟨_, rfl⟩
      have hPb : P ≤ 4294967295 * 4294967295 := by rw [← hP]; exact Nat.mul_le_mul (by omega) (by omega)
      have hPI : IntKind.u64.wrap ((q : Int) * (y0 : Int)) = (P : Int) := by rw [← Int.natCast_mul, hP, IntKind.wrap_u64]; omega
      have hqs : (q : Int) < 4294967296 := by omega
      have hP2 : (P : Int) ≤ 18446744065119617025 := by omega
      clear hPb c1
      by_cases c2 : (4294967296 : Int) * (r : Int) + (u1 : Int) < (P : Int)
      · have hQ1 : Q1 ≤ q - 1 := by
          have h := Dv.less_ok (B := 4294967296) (y1 := y1) (y0 := y0) (U := U) (u1 := u1) hv0 HR.out.2.1 (by rw [hP]; omega)
          rw [← show v = y1 * 4294967296 + y0 from HD.out.1.1, HQ1.out] at h
          exact h
        have hq1 : 1 ≤ q := by
          rcases Nat.eq_zero_or_pos q with h | h
          · rw [h, Nat.zero_mul] at hP; omega
          · exact h
        have hq1I : (1 : Int) ≤ (q : Int) := by omega
        by_cases hb : (4294967296 : Int) ≤ (r : Int) + (y1 : Int)
        · have he : (q : Int) - 1 = (Q1 : Int) := by
            have h := Dv.break_ok (B := 4294967296) (y1 := y1) (y0 := y0) (U := U) (u1 := u1) (q := q - 1) (r := r + y1) hv0 (by omega) (Dv.down HR.out.2.1 (by omega)) (by rw [← show v = y1 * 4294967296 + y0 from HD.out.1.1, HQ1.out]; exact hQ1) (by omega) (by omega)
            rw [← show v = y1 * 4294967296 + y0 from HD.out.1.1, HQ1.out] at h
            omega
          clear hQ1 HR hq1 hP hv0
          go_upto_region 21 with (fail)
          clear he hb c2 hqI hrI hPI hP2 hqs hq1I
          obtain ⟨U2, hU2⟩ : ∃ R, (U * 4294967296 + u1) % v = R := ⟨_, rfl⟩
          have hdm5 : Q1 * v + U2 = U * 4294967296 + u1 := by rw [← HQ1.out, ← hU2, Nat.mul_comm]; exact Nat.div_add_mod _ _
          have hU2b : U2 < v := by rw [← hU2]; exact Nat.mod_lt _ (by have := HP.out; omega)
          have HU2 := Lib.hid (And.intro hU2 hU2b)
          obtain ⟨Y5, hY5⟩ : ∃ Y, Q1 * v = Y := ⟨_, rfl⟩
          rw [hY5] at hdm5
          obtain ⟨a5, ha5⟩ : ∃ a : Nat, IntKind.u64.wrap ((U : Int) * 4294967296) = (a : Int) := ⟨U * 4294967296 % 18446744073709551616, by rw [IntKind.wrap_u64]; omega⟩
          obtain ⟨b5, hb5⟩ : ∃ b : Nat, IntKind.u64.wrap ((a5 : Int) + (u1 : Int)) = (b : Int) := ⟨(a5 + u1) % 18446744073709551616, by rw [IntKind.wrap_u64]; omega⟩
          obtain ⟨c5, hc5⟩ : ∃ c : Nat, IntKind.u64.wrap ((Q1 : Int) * (v : Int)) = (c : Int) := ⟨Y5 % 18446744073709551616, by rw [← Int.natCast_mul, hY5, IntKind.wrap_u64]; omega⟩
          have hd5 : IntKind.u64.wrap ((b5 : Int) - (c5 : Int)) = (U2 : Int) := by
            have e3 := hc5
            rw [← Int.natCast_mul, hY5] at e3
            have e1 := ha5
            have e2 := hb5
            rw [IntKind.wrap_u64] at e1 e2 e3 ⊢
            have := HP.out
            omega
          clear hdm5 hY5 hU2
          have hU2I : (U2 : Int) ≤ 18446744073709551615 := by have := HP.out; omega
          have HU3 := Lib.hid hU2b
          have HI2 : Hid (U2 = U2 / y1 * y1 + U2 % y1 ∧ U2 % y1 < y1 ∧ U2 / y1 ≤ 4294967297) := Lib.hid ⟨by rw [Nat.mul_comm]; exact (Nat.div_add_mod U2 y1).symm, Nat.mod_lt _ (by omega), Dv.est_small (B := 4294967296) (y0 := y0) (by omega) (by omega) (by have := HU2.out.2; have := HD.out.1.1; omega)⟩
          obtain ⟨q2, hq2⟩ : ∃ q, U2 / y1 = q := ⟨_, rfl⟩
          obtain ⟨r2, hr2⟩ : ∃ r, U2 % y1 = r := ⟨_, rfl⟩
          rw [hq2, hr2] at HI2
          have hqI2 : (U2 : Int) / (y1 : Int) = (q2 : Int) := by rw [← hq2]; rfl
          obtain ⟨p2, hp2⟩ : ∃ p, q2 * y1 = p := ⟨_, rfl⟩
          have hpI2 : IntKind.u64.wrap ((q2 : Int) * (y1 : Int)) = (p2 : Int) := by
            rw [← Int.natCast_mul, hp2, IntKind.wrap_u64]
            have := HI2.out.1; rw [hp2] at this
            have := HU2.out.2; have := HP.out
            omega
          have hqb2 : (q2 : Int) ≤ 4294967297 := by have := HI2.out; omega
          have hle2 : (p2 : Int) ≤ (U2 : Int) := by have := HI2.out.1; rw [hp2] at this; omega
          have hsub2 : (U2 : Int) - (p2 : Int) = (r2 : Int) := by have := HI2.out.1; rw [hp2] at this; omega
          have hUI2 : (U2 : Int) ≤ 18446744073709551615 := by have := HU2.out.2; have := HP.out; omega
          have hy1I2 : (0 : Int) < (y1 : Int) := by omega
          have hy1z2 : ((y1 : Int) == 0) = false := by simp; omega
          have hq02 := HI2.out
          rw [hp2] at hq02
          have HE2 : Hid (U2 = q2 * y1 + r2 ∧ r2 < y1 ∧ q2 ≤ 4294967297) := Lib.hid (by have := HI2.out; exact this)
          clear hq2 hr2 hp2 HI2 hq02
          go_upto_region 24 with (fail)
          clear hqI2 hpI2 hsub2 hle2 hd5 hc5 hb5 ha5
          obtain ⟨Q2, hQ2⟩ : ∃ Q, (U2 * 4294967296 + u0) / v = Q := ⟨_, rfl⟩
          have HQ2 := Lib.hid hQ2
          have hQ2b : Q2 < 4294967296 := by rw [← hQ2]; exact Dv.quo_lt (by omega) (by have := HU3.out; omega)
          have hst3 : Q2 ≤ q2 := by
            have h := Dv.est_top (B := 4294967296) (y1 := y1) (y0 := y0) (U := U2) (u1 := u0) (by omega) (by omega)
            rw [q_of HE2.out.1 HE2.out.2.1, ← show v = y1 * 4294967296 + y0 from HD.out.1.1, HQ2.out] at h
            exact h
          have HQ2b := Lib.hid hQ2b
          have hQ2I : (Q2 : Int) ≤ 4294967295 := by omega
          have HS3 : Hid (Q2 ≤ q2 ∧ U2 = q2 * y1 + r2 ∧ q2 ≤ 4294967297) := Lib.hid ⟨hst3, HE2.out.1, HE2.out.2.2⟩
          have hr2I : (r2 : Int) < 4294967296 := by have := HE2.out; omega
          have hq2I : (q2 : Int) ≤ 4294967297 := by have := HE2.out; omega
          clear hQ2 hst3 HE2 hQ2b
          go_loop [18, 16] (fun a b => ∃ q r : Nat, Hid (Q2 ≤ q ∧ U2 = q * y1 + r ∧ q ≤ 4294967297) ∧ (q : Int) ≤ 4294967297 ∧ (r : Int) < 4294967296 ∧ a = .int .u64 q ∧ b = .int .u64 r) (fun _ b => (4294967296 - intOf b).toNat)
          case atStart => exact ⟨q2, r2, HS3, hq2I, hr2I, rfl, rfl⟩
          case round =>
            obtain ⟨q, r, HR, hqI, hrI, rfl, rfl⟩ := hrel
            clear HS3 hr2I hq2I
            have hv0 : 0 < y1 * 4294967296 + y0 := by have := HD.out.1.1; omega
            by_cases c1 : (4294967296 : Int) ≤ (q : Int)
            · have hQ1 : Q2 ≤ q - 1 := by have := HQ2b.out; omega
              by_cases hb : (4294967296 : Int) ≤ (r : Int) + (y1 : Int)
              · have he : (q : Int) - 1 = (Q2 : Int) := by
                  have h := Dv.break_ok (B := 4294967296) (y1 := y1) (y0 := y0) (U := U2) (u1 := u0) (q := q - 1) (r := r + y1) hv0 (by omega) (Dv.down HR.out.2.1 (by omega)) (by rw [← show v = y1 * 4294967296 + y0 from HD.out.1.1, HQ2.out]; exact hQ1) (by omega) (by omega)
                  rw [← show v = y1 * 4294967296 + y0 from HD.out.1.1, HQ2.out] at h
                  omega
                clear hQ1 HR hv0
                go_upto_region 28 with (fail)
                clear he hb c1 hqI hrI
                obtain ⟨R2, hR2⟩ : ∃ R, (U2 * 4294967296 + u0) % v = R := ⟨_, rfl⟩
                have hdm6 : Q2 * v + R2 = U2 * 4294967296 + u0 := by rw [← HQ2.out, ← hR2, Nat.mul_comm]; exact Nat.div_add_mod _ _
                have hR2b : R2 < v := by rw [← hR2]; exact Nat.mod_lt _ (by have := HP.out; omega)
                have HR2 := Lib.hid (And.intro hR2 hR2b)
                obtain ⟨Y6, hY6⟩ : ∃ Y, Q2 * v = Y := ⟨_, rfl⟩
                rw [hY6] at hdm6
                obtain ⟨a6, ha6⟩ : ∃ a : Nat, IntKind.u64.wrap ((U2 : Int) * 4294967296) = (a : Int) := ⟨U2 * 4294967296 % 18446744073709551616, by rw [IntKind.wrap_u64]; omega⟩
                obtain ⟨b6, hb6⟩ : ∃ b : Nat, IntKind.u64.wrap ((a6 : Int) + (u0 : Int)) = (b : Int) := ⟨(a6 + u0) % 18446744073709551616, by rw [IntKind.wrap_u64]; omega⟩
                obtain ⟨c6, hc6⟩ : ∃ c : Nat, IntKind.u64.wrap ((Q2 : Int) * (v : Int)) = (c : Int) := ⟨Y6 % 18446744073709551616, by rw [← Int.natCast_mul, hY6, IntKind.wrap_u64]; omega⟩
                have hd6 : IntKind.u64.wrap ((b6 : Int) - (c6 : Int)) = (R2 : Int) := by
                  have e3 := hc6
                  rw [← Int.natCast_mul, hY6] at e3
                  have e1 := ha6
                  have e2 := hb6
                  rw [IntKind.wrap_u64] at e1 e2 e3 ⊢
                  have := HP.out
                  omega
                clear hdm6 hY6 hR2
                have hR2I : (R2 : Int) ≤ 18446744073709551615 := by have := HP.out; omega
                have hfin : Q1 * 4294967296 + Q2 = (hi * 18446744073709551616 + lo) / y ∧ R2 / 2 ^ s = (hi * 18446744073709551616 + lo) % y := by
                  have hs2 : 0 < 2 ^ s := Nat.pos_of_ne_zero (by simp)
                  have h1 := Dv.scaled (N := hi * 18446744073709551616 + lo) (y := y) hs2
                  have h2 := HWD.out.1
                  have h3 := HWD.out.2.2.2.2
                  rw [h3] at h1
                  have h4 := Dv.two_digits (B := 4294967296) (v := v) (U := U) (u1 := u1) (u0 := u0) (by have := HP.out; omega) (by decide) (by omega)
                  rw [HQ1.out, HU2.out.1, HQ2.out, HR2.out.1] at h4
                  have h5 : (hi * 18446744073709551616 + lo) * 2 ^ s = (U * 4294967296 + u1) * 4294967296 + u0 := by
                    have h6 : (hi * 18446744073709551616 + lo) * 2 ^ s = U * 2 ^ 64 + L := h2
                    rw [h6, Nat.add_mul, Nat.mul_assoc]
                    have := HD.out.2
                    omega
                  rw [h5, h4.1, h4.2] at h1
                  exact ⟨h1.1, h1.2⟩
                have e1 : (RQ : Int) = (Q1 : Int) * 4294967296 + (Q2 : Int) := by rw [← HRQ.out.1, ← hfin.1]; simp
                have e2 : (RR : Int) = (R2 : Int) / 2 ^ s := by rw [← HRQ.out.2, ← hfin.2, Int.natCast_ediv, Int.natCast_pow]; rfl
                have HFN := Lib.hid (And.intro e1 e2)
                clear hfin e1 e2
                go_wp2
                go_ret2
                rw [HFN.out.1, HFN.out.2]
                exact ⟨rfl, rfl⟩
              · have HN : Hid (Q2 ≤ q - 1 ∧ U2 = (q - 1) * y1 + (r + y1) ∧ q - 1 ≤ 4294967297) := Lib.hid ⟨hQ1, Dv.down HR.out.2.1 (by omega), by omega⟩
                have hb' : decide ((4294967296 : Int) ≤ (r : Int) + (y1 : Int)) = false ∧ Hid (¬ (4294967296 : Int) ≤ (r : Int) + (y1 : Int)) := ⟨by rw [decide_eq_false_iff_not]; exact hb, Lib.hid hb⟩
                obtain ⟨hb', HBb⟩ := hb'
                clear hQ1 HR hb hv0
                go_wp2
                go_round
                case rel => exact ⟨q - 1, r + y1, HN, by omega, by have := HBb.out; omega, by congr 1; omega, by congr 1⟩
                case measure => first | (simp [intOf]; done) | (simp [intOf]; omega)
            · obtain ⟨P, hP⟩ : ∃ P, q * y0 = P := ⟨_, rfl⟩
              have hPb : P ≤ 4294967295 * 4294967295 := by rw [← hP]; exact Nat.mul_le_mul (by omega) (by omega)
              have hPI : IntKind.u64.wrap ((q : Int) * (y0 : Int)) = (P : Int) := by rw [← Int.natCast_mul, hP, IntKind.wrap_u64]; omega
              have hqs : (q : Int) < 4294967296 := by omega
              have hP2 : (P : Int) ≤ 18446744065119617025 := by omega
              clear hPb c1
              by_cases c2 : (4294967296 : Int) * (r : Int) + (u0 : Int) < (P : Int)
              · have hQ1 : Q2 ≤ q - 1 := by
                  have h := Dv.less_ok (B := 4294967296) (y1 := y1) (y0 := y0) (U := U2) (u1 := u0) hv0 HR.out.2.1 (by rw [hP]; omega)
                  rw [← show v = y1 * 4294967296 + y0 from HD.out.1.1, HQ2.out] at h
                  exact h
                have hq1 : 1 ≤ q := by
                  rcases Nat.eq_zero_or_pos q with h | h
                  · rw [h, Nat.zero_mul] at hP; omega
                  · exact h
                have hq1I : (1 : Int) ≤ (q : Int) := by omega
                by_cases hb : (4294967296 : Int) ≤ (r : Int) + (y1 : Int)
                · have he : (q : Int) - 1 = (Q2 : Int) := by
                    have h := Dv.break_ok (B := 4294967296) (y1 := y1) (y0 := y0) (U := U2) (u1 := u0) (q := q - 1) (r := r + y1) hv0 (by omega) (Dv.down HR.out.2.1 (by omega)) (by rw [← show v = y1 * 4294967296 + y0 from HD.out.1.1, HQ2.out]; exact hQ1) (by omega) (by omega)
                    rw [← show v = y1 * 4294967296 + y0 from HD.out.1.1, HQ2.out] at h
                    omega
                  clear hQ1 HR hq1 hP hv0
                  go_upto_region 28 with (fail)
                  clear he hb c2 hqI hrI hPI hP2 hqs hq1I
                  obtain ⟨R2, hR2⟩ : ∃ R, (U2 * 4294967296 + u0) % v = R := ⟨_, rfl⟩
                  have hdm6 : Q2 * v + R2 = U2 * 4294967296 + u0 := by rw [← HQ2.out, ← hR2, Nat.mul_comm]; exact Nat.div_add_mod _ _
                  have hR2b : R2 < v := by rw [← hR2]; exact Nat.mod_lt _ (by have := HP.out; omega)
                  have HR2 := Lib.hid (And.intro hR2 hR2b)
                  obtain ⟨Y6, hY6⟩ : ∃ Y, Q2 * v = Y := ⟨_, rfl⟩
                  rw [hY6] at hdm6
                  obtain ⟨a6, ha6⟩ : ∃ a : Nat, IntKind.u64.wrap ((U2 : Int) * 4294967296) = (a : Int) := ⟨U2 * 4294967296 % 18446744073709551616, by rw [IntKind.wrap_u64]; omega⟩
                  obtain ⟨b6, hb6⟩ : ∃ b : Nat, IntKind.u64.wrap ((a6 : Int) + (u0 : Int)) = (b : Int) := ⟨(a6 + u0) % 18446744073709551616, by rw [IntKind.wrap_u64]; omega⟩
                  obtain ⟨c6, hc6⟩ : ∃ c : Nat, IntKind.u64.wrap ((Q2 : Int) * (v : Int)) = (c : Int) := ⟨Y6 % 18446744073709551616, by rw [← Int.natCast_mul, hY6, IntKind.wrap_u64]; omega⟩
                  have hd6 : IntKind.u64.wrap ((b6 : Int) - (c6 : Int)) = (R2 : Int) := by
                    have e3 := hc6
                    rw [← Int.natCast_mul, hY6] at e3
                    have e1 := ha6
                    have e2 := hb6
                    rw [IntKind.wrap_u64] at e1 e2 e3 ⊢
                    have := HP.out
                    omega
                  clear hdm6 hY6 hR2
                  have hR2I : (R2 : Int) ≤ 18446744073709551615 := by have := HP.out; omega
                  have hfin : Q1 * 4294967296 + Q2 = (hi * 18446744073709551616 + lo) / y ∧ R2 / 2 ^ s = (hi * 18446744073709551616 + lo) % y := by
                    have hs2 : 0 < 2 ^ s := Nat.pos_of_ne_zero (by simp)
                    have h1 := Dv.scaled (N := hi * 18446744073709551616 + lo) (y := y) hs2
                    have h2 := HWD.out.1
                    have h3 := HWD.out.2.2.2.2
                    rw [h3] at h1
                    have h4 := Dv.two_digits (B := 4294967296) (v := v) (U := U) (u1 := u1) (u0 := u0) (by have := HP.out; omega) (by decide) (by omega)
                    rw [HQ1.out, HU2.out.1, HQ2.out, HR2.out.1] at h4
                    have h5 : (hi * 18446744073709551616 + lo) * 2 ^ s = (U * 4294967296 + u1) * 4294967296 + u0 := by
                      have h6 : (hi * 18446744073709551616 + lo) * 2 ^ s = U * 2 ^ 64 + L := h2
                      rw [h6, Nat.add_mul, Nat.mul_assoc]
                      have := HD.out.2
                      omega
                    rw [h5, h4.1, h4.2] at h1
                    exact ⟨h1.1, h1.2⟩
                  have e1 : (RQ : Int) = (Q1 : Int) * 4294967296 + (Q2 : Int) := by rw [← HRQ.out.1, ← hfin.1]; simp
                  have e2 : (RR : Int) = (R2 : Int) / 2 ^ s := by rw [← HRQ.out.2, ← hfin.2, Int.natCast_ediv, Int.natCast_pow]; rfl
                  have HFN := Lib.hid (And.intro e1 e2)
                  clear hfin e1 e2
                  go_wp2
                  go_ret2
                  rw [HFN.out.1, HFN.out.2]
                  exact ⟨rfl, rfl⟩
                · have HN : Hid (Q2 ≤ q - 1 ∧ U2 = (q - 1) * y1 + (r + y1) ∧ q - 1 ≤ 4294967297) := Lib.hid ⟨hQ1, Dv.down HR.out.2.1 hq1, by omega⟩
                  have hb' : decide ((4294967296 : Int) ≤ (r : Int) + (y1 : Int)) = false ∧ Hid (¬ (4294967296 : Int) ≤ (r : Int) + (y1 : Int)) := ⟨by rw [decide_eq_false_iff_not]; exact hb, Lib.hid hb⟩
                  obtain ⟨hb', HBb⟩ := hb'
                  clear hQ1 HR hb hP hv0
                  go_wp2
                  go_round
                  case rel => exact ⟨q - 1, r + y1, HN, by omega, by have := HBb.out; omega, by congr 1; omega, by congr 1⟩
                  case measure => first | (simp [intOf]; done) | (simp [intOf]; omega)
              · have he : q = Q2 := by
                  have h := Dv.stop_ok (B := 4294967296) (y1 := y1) (y0 := y0) (U := U2) (u1 := u0) (q := q) (r := r) hv0 HR.out.2.1 (by rw [← show v = y1 * 4294967296 + y0 from HD.out.1.1, HQ2.out]; exact HR.out.1) (by rw [hP]; omega)
                  rw [← show v = y1 * 4294967296 + y0 from HD.out.1.1, HQ2.out] at h
                  exact h
                have c2' : decide ((4294967296 : Int) * (r : Int) + (u0 : Int) < (P : Int)) = false := by rw [decide_eq_false_iff_not]; exact c2
                have HE9 := Lib.hid he.symm
                have hqs' : decide ((4294967296 : Int) ≤ (q : Int)) = false := by rw [decide_eq_false_iff_not]; omega
                clear HR c2 hP hv0 he hqs
                go_upto_region 28 with (fail)
                clear c2' hqI hrI hPI hP2 hqs'
                have he2 := HE9.out
                clear HE9
                subst he2
                obtain ⟨R2, hR2⟩ : ∃ R, (U2 * 4294967296 + u0) % v = R := ⟨_, rfl⟩
                have hdm6 : Q2 * v + R2 = U2 * 4294967296 + u0 := by rw [← HQ2.out, ← hR2, Nat.mul_comm]; exact Nat.div_add_mod _ _
                have hR2b : R2 < v := by rw [← hR2]; exact Nat.mod_lt _ (by have := HP.out; omega)
                have HR2 := Lib.hid (And.intro hR2 hR2b)
                obtain ⟨Y6, hY6⟩ : ∃ Y, Q2 * v = Y := ⟨_, rfl⟩
                rw [hY6] at hdm6
                obtain ⟨a6, ha6⟩ : ∃ a : Nat, IntKind.u64.wrap ((U2 : Int) * 4294967296) = (a : Int) := ⟨U2 * 4294967296 % 18446744073709551616, by rw [IntKind.wrap_u64]; omega⟩
                obtain ⟨b6, hb6⟩ : ∃ b : Nat, IntKind.u64.wrap ((a6 : Int) + (u0 : Int)) = (b : Int) := ⟨(a6 + u0) % 18446744073709551616, by rw [IntKind.wrap_u64]; omega⟩
                obtain ⟨c6, hc6⟩ : ∃ c : Nat, IntKind.u64.wrap ((Q2 : Int) * (v : Int)) = (c : Int) := ⟨Y6 % 18446744073709551616, by rw [← Int.natCast_mul, hY6, IntKind.wrap_u64]; omega⟩
                have hd6 : IntKind.u64.wrap ((b6 : Int) - (c6 : Int)) = (R2 : Int) := by
                  have e3 := hc6
                  rw [← Int.natCast_mul, hY6] at e3
                  have e1 := ha6
                  have e2 := hb6
                  rw [IntKind.wrap_u64] at e1 e2 e3 ⊢
                  have := HP.out
                  omega
                clear hdm6 hY6 hR2
                have hR2I : (R2 : Int) ≤ 18446744073709551615 := by have := HP.out; omega
                have hfin : Q1 * 4294967296 + Q2 = (hi * 18446744073709551616 + lo) / y ∧ R2 / 2 ^ s = (hi * 18446744073709551616 + lo) % y := by
                  have hs2 : 0 < 2 ^ s := Nat.pos_of_ne_zero (by simp)
                  have h1 := Dv.scaled (N := hi * 18446744073709551616 + lo) (y := y) hs2
                  have h2 := HWD.out.1
                  have h3 := HWD.out.2.2.2.2
                  rw [h3] at h1
                  have h4 := Dv.two_digits (B := 4294967296) (v := v) (U := U) (u1 := u1) (u0 := u0) (by have := HP.out; omega) (by decide) (by omega)
                  rw [HQ1.out, HU2.out.1, HQ2.out, HR2.out.1] at h4
                  have h5 : (hi * 18446744073709551616 + lo) * 2 ^ s = (U * 4294967296 + u1) * 4294967296 + u0 := by
                    have h6 : (hi * 18446744073709551616 + lo) * 2 ^ s = U * 2 ^ 64 + L := h2
                    rw [h6, Nat.add_mul, Nat.mul_assoc]
                    have := HD.out.2
                    omega
                  rw [h5, h4.1, h4.2] at h1
                  exact ⟨h1.1, h1.2⟩
                have e1 : (RQ : Int) = (Q1 : Int) * 4294967296 + (Q2 : Int) := by rw [← HRQ.out.1, ← hfin.1]; simp
                have e2 : (RR : Int) = (R2 : Int) / 2 ^ s := by rw [← HRQ.out.2, ← hfin.2, Int.natCast_ediv, Int.natCast_pow]; rfl
                have HFN := Lib.hid (And.intro e1 e2)
                clear hfin e1 e2
                go_wp2
                go_ret2
                rw [HFN.out.1, HFN.out.2]
                exact ⟨rfl, rfl⟩
        · have HN : Hid (Q1 ≤ q - 1 ∧ U = (q - 1) * y1 + (r + y1) ∧ q - 1 ≤ 4294967297) := Lib.hid ⟨hQ1, Dv.down HR.out.2.1 hq1, by omega⟩
          have hb' : decide ((4294967296 : Int) ≤ (r : Int) + (y1 : Int)) = false ∧ Hid (¬ (4294967296 : Int) ≤ (r : Int) + (y1 : Int)) := ⟨by rw [decide_eq_false_iff_not]; exact hb, Lib.hid hb⟩
          obtain ⟨hb', HBb⟩ := hb'
          clear hQ1 HR hb hP hv0
          go_wp2
          go_round
          case rel => exact ⟨q - 1, r + y1, HN, by omega, by have := HBb.out; omega, by congr 1; omega, by congr 1⟩
          case measure => first | (simp [intOf]; done) | (simp [intOf]; omega)
      · have he : q = Q1 := by
          have h := Dv.stop_ok (B := 4294967296) (y1 := y1) (y0 := y0) (U := U) (u1 := u1) (q := q) (r := r) hv0 HR.out.2.1 (by rw [← show v = y1 * 4294967296 + y0 from HD.out.1.1, HQ1.out]; exact HR.out.1) (by rw [hP]; omega)
          rw [← show v = y1 * 4294967296 + y0 from HD.out.1.1, HQ1.out] at h
          exact h
        have c2' : decide ((4294967296 : Int) * (r : Int) + (u1 : Int) < (P : Int)) = false := by rw [decide_eq_false_iff_not]; exact c2
        have HE9 := Lib.hid he.symm
        have hqs' : decide ((4294967296 : Int) ≤ (q : Int)) = false := by rw [decide_eq_false_iff_not]; omega
        clear HR c2 hP hv0 he hqs
        go_upto_region 21 with (fail)
        clear c2' hqI hrI hPI hP2 hqs'
        have he2 := HE9.out
        clear HE9
        subst he2
        obtain ⟨U2, hU2⟩ : ∃ R, (U * 4294967296 + u1) % v = R := ⟨_, rfl⟩
        have hdm5 : Q1 * v + U2 = U * 4294967296 + u1 := by rw [← HQ1.out, ← hU2, Nat.mul_comm]; exact Nat.div_add_mod _ _
        have hU2b : U2 < v := by rw [← hU2]; exact Nat.mod_lt _ (by have := HP.out; omega)
        have HU2 := Lib.hid (And.intro hU2 hU2b)
        obtain ⟨Y5, hY5⟩ : ∃ Y, Q1 * v = Y := ⟨_, rfl⟩
        rw [hY5] at hdm5
        obtain ⟨a5, ha5⟩ : ∃ a : Nat, IntKind.u64.wrap ((U : Int) * 4294967296) = (a : Int) := ⟨U * 4294967296 % 18446744073709551616, by rw [IntKind.wrap_u64]; omega⟩
        obtain ⟨b5, hb5⟩ : ∃ b : Nat, IntKind.u64.wrap ((a5 : Int) + (u1 : Int)) = (b : Int) := ⟨(a5 + u1) % 18446744073709551616, by rw [IntKind.wrap_u64]; omega⟩
        obtain ⟨c5, hc5⟩ : ∃ c : Nat, IntKind.u64.wrap ((Q1 : Int) * (v : Int)) = (c : Int) := ⟨Y5 % 18446744073709551616, by rw [← Int.natCast_mul, hY5, IntKind.wrap_u64]; omega⟩
        have hd5 : IntKind.u64.wrap ((b5 : Int) - (c5 : Int)) = (U2 : Int) := by
          have e3 := hc5
          rw [← Int.natCast_mul, hY5] at e3
          have e1 := ha5
          have e2 := hb5
          rw [IntKind.wrap_u64] at e1 e2 e3 ⊢
          have := HP.out
          omega
        clear hdm5 hY5 hU2
        have hU2I : (U2 : Int) ≤ 18446744073709551615 := by have := HP.out; omega
        have HU3 := Lib.hid hU2b
        have HI2 : Hid (U2 = U2 / y1 * y1 + U2 % y1 ∧ U2 % y1 < y1 ∧ U2 / y1 ≤ 4294967297) := Lib.hid ⟨by rw [Nat.mul_comm]; exact (Nat.div_add_mod U2 y1).symm, Nat.mod_lt _ (by omega), Dv.est_small (B := 4294967296) (y0 := y0) (by omega) (by omega) (by have := HU2.out.2; have := HD.out.1.1; omega)⟩
        obtain ⟨q2, hq2⟩ : ∃ q, U2 / y1 = q := ⟨_, rfl⟩
        obtain ⟨r2, hr2⟩ : ∃ r, U2 % y1 = r := ⟨_, rfl⟩
        rw [hq2, hr2] at HI2
        have hqI2 : (U2 : Int) / (y1 : Int) = (q2 : Int) := by rw [← hq2]; rfl
        obtain ⟨p2, hp2⟩ : ∃ p, q2 * y1 = p := ⟨_, rfl⟩
        have hpI2 : IntKind.u64.wrap ((q2 : Int) * (y1 : Int)) = (p2 : Int) := by
          rw [← Int.natCast_mul, hp2, IntKind.wrap_u64]
          have := HI2.out.1; rw [hp2] at this
          have := HU2.out.2; have := HP.out
          omega
        have hqb2 : (q2 : Int) ≤ 4294967297 := by have := HI2.out; omega
        have hle2 : (p2 : Int) ≤ (U2 : Int) := by have := HI2.out.1; rw [hp2] at this; omega
        have hsub2 : (U2 : Int) - (p2 : Int) = (r2 : Int) := by have := HI2.out.1; rw [hp2] at this; omega
        have hUI2 : (U2 : Int) ≤ 18446744073709551615 := by have := HU2.out.2; have := HP.out; omega
        have hy1I2 : (0 : Int) < (y1 : Int) := by omega
        have hy1z2 : ((y1 : Int) == 0) = false := by simp; omega
        have hq02 := HI2.out
        rw [hp2] at hq02
        have HE2 : Hid (U2 = q2 * y1 + r2 ∧ r2 < y1 ∧ q2 ≤ 4294967297) := Lib.hid (by have := HI2.out; exact this)
        clear hq2 hr2 hp2 HI2 hq02
        go_upto_region 24 with (fail)
        clear hqI2 hpI2 hsub2 hle2 hd5 hc5 hb5 ha5
        obtain ⟨Q2, hQ2⟩ : ∃ Q, (U2 * 4294967296 + u0) / v = Q := ⟨_, rfl⟩
        have HQ2 := Lib.hid hQ2
        have hQ2b : Q2 < 4294967296 := by rw [← hQ2]; exact Dv.quo_lt (by omega) (by have := HU3.out; omega)
        have hst3 : Q2 ≤ q2 := by
          have h := Dv.est_top (B := 4294967296) (y1 := y1) (y0 := y0) (U := U2) (u1 := u0) (by omega) (by omega)
          rw [q_of HE2.out.1 HE2.out.2.1, ← show v = y1 * 4294967296 + y0 from HD.out.1.1, HQ2.out] at h
          exact h
        have HQ2b := Lib.hid hQ2b
        have hQ2I : (Q2 : Int) ≤ 4294967295 := by omega
        have HS3 : Hid (Q2 ≤ q2 ∧ U2 = q2 * y1 + r2 ∧ q2 ≤ 4294967297) := Lib.hid ⟨hst3, HE2.out.1, HE2.out.2.2⟩
        have hr2I : (r2 : Int) < 4294967296 := by have := HE2.out; omega
        have hq2I : (q2 : Int) ≤ 4294967297 := by have := HE2.out; omega
        clear hQ2 hst3 HE2 hQ2b
        go_loop [18, 16] (fun a b => ∃ q r : Nat, Hid (Q2 ≤ q ∧ U2 = q * y1 + r ∧ q ≤ 4294967297) ∧ (q : Int) ≤ 4294967297 ∧ (r : Int) < 4294967296 ∧ a = .int .u64 q ∧ b = .int .u64 r) (fun _ b => (4294967296 - intOf b).toNat)
        case atStart => exact ⟨q2, r2, HS3, hq2I, hr2I, rfl, rfl⟩
        case round =>
          obtain ⟨q, r, HR, hqI, hrI, rfl, rfl⟩ := hrel
          clear HS3 hr2I hq2I
          have hv0 : 0 < y1 * 4294967296 + y0 := by have := HD.out.1.1; omega
          by_cases c1 : (4294967296 : Int) ≤ (q : Int)
          · have hQ1 : Q2 ≤ q - 1 := by have := HQ2b.out; omega
            by_cases hb : (4294967296 : Int) ≤ (r : Int) + (y1 : Int)
            · have he : (q : Int) - 1 = (Q2 : Int) := by
                have h := Dv.break_ok (B := 4294967296) (y1 := y1) (y0 := y0) (U := U2) (u1 := u0) (q := q - 1) (r := r + y1) hv0 (by omega) (Dv.down HR.out.2.1 (by omega)) (by rw [← show v = y1 * 4294967296 + y0 from HD.out.1.1, HQ2.out]; exact hQ1) (by omega) (by omega)
                rw [← show v = y1 * 4294967296 + y0 from HD.out.1.1, HQ2.out] at h
                omega
              clear hQ1 HR hv0
              go_upto_region 28 with (fail)
              clear he hb c1 hqI hrI
              obtain ⟨R2, hR2⟩ : ∃ R, (U2 * 4294967296 + u0) % v = R := ⟨_, rfl⟩
              have hdm6 : Q2 * v + R2 = U2 * 4294967296 + u0 := by rw [← HQ2.out, ← hR2, Nat.mul_comm]; exact Nat.div_add_mod _ _
              have hR2b : R2 < v := by rw [← hR2]; exact Nat.mod_lt _ (by have := HP.out; omega)
              have HR2 := Lib.hid (And.intro hR2 hR2b)
              obtain ⟨Y6, hY6⟩ : ∃ Y, Q2 * v = Y := ⟨_, rfl⟩
              rw [hY6] at hdm6
              obtain ⟨a6, ha6⟩ : ∃ a : Nat, IntKind.u64.wrap ((U2 : Int) * 4294967296) = (a : Int) := ⟨U2 * 4294967296 % 18446744073709551616, by rw [IntKind.wrap_u64]; omega⟩
              obtain ⟨b6, hb6⟩ : ∃ b : Nat, IntKind.u64.wrap ((a6 : Int) + (u0 : Int)) = (b : Int) := ⟨(a6 + u0) % 18446744073709551616, by rw [IntKind.wrap_u64]; omega⟩
              obtain ⟨c6, hc6⟩ : ∃ c : Nat, IntKind.u64.wrap ((Q2 : Int) * (v : Int)) = (c : Int) := ⟨Y6 % 18446744073709551616, by rw [← Int.natCast_mul, hY6, IntKind.wrap_u64]; omega⟩
              have hd6 : IntKind.u64.wrap ((b6 : Int) - (c6 : Int)) = (R2 : Int) := by
                have e3 := hc6
                rw [← Int.natCast_mul, hY6] at e3
                have e1 := ha6
                have e2 := hb6
                rw [IntKind.wrap_u64] at e1 e2 e3 ⊢
                have := HP.out
                omega
              clear hdm6 hY6 hR2
              have hR2I : (R2 : Int) ≤ 18446744073709551615 := by have := HP.out; omega
              have hfin : Q1 * 4294967296 + Q2 = (hi * 18446744073709551616 + lo) / y ∧ R2 / 2 ^ s = (hi * 18446744073709551616 + lo) % y := by
                have hs2 : 0 < 2 ^ s := Nat.pos_of_ne_zero (by simp)
                have h1 := Dv.scaled (N := hi * 18446744073709551616 + lo) (y := y) hs2
                have h2 := HWD.out.1
                have h3 := HWD.out.2.2.2.2
                rw [h3] at h1
                have h4 := Dv.two_digits (B := 4294967296) (v := v) (U := U) (u1 := u1) (u0 := u0) (by have := HP.out; omega) (by decide) (by omega)
                rw [HQ1.out, HU2.out.1, HQ2.out, HR2.out.1] at h4
                have h5 : (hi * 18446744073709551616 + lo) * 2 ^ s = (U * 4294967296 + u1) * 4294967296 + u0 := by
                  have h6 : (hi * 18446744073709551616 + lo) * 2 ^ s = U * 2 ^ 64 + L := h2
                  rw [h6, Nat.add_mul, Nat.mul_assoc]
                  have := HD.out.2
                  omega
                rw [h5, h4.1, h4.2] at h1
                exact ⟨h1.1, h1.2⟩
              have e1 : (RQ : Int) = (Q1 : Int) * 4294967296 + (Q2 : Int) := by rw [← HRQ.out.1, ← hfin.1]; simp
              have e2 : (RR : Int) = (R2 : Int) / 2 ^ s := by rw [← HRQ.out.2, ← hfin.2, Int.natCast_ediv, Int.natCast_pow]; rfl
              have HFN := Lib.hid (And.intro e1 e2)
              clear hfin e1 e2
              go_wp2
              go_ret2
              rw [HFN.out.1, HFN.out.2]
              exact ⟨rfl, rfl⟩
            · have HN : Hid (Q2 ≤ q - 1 ∧ U2 = (q - 1) * y1 + (r + y1) ∧ q - 1 ≤ 4294967297) := Lib.hid ⟨hQ1, Dv.down HR.out.2.1 (by omega), by omega⟩
              have hb' : decide ((4294967296 : Int) ≤ (r : Int) + (y1 : Int)) = false ∧ Hid (¬ (4294967296 : Int) ≤ (r : Int) + (y1 : Int)) := ⟨by rw [decide_eq_false_iff_not]; exact hb, Lib.hid hb⟩
              obtain ⟨hb', HBb⟩ := hb'
              clear hQ1 HR hb hv0
              go_wp2
              go_round
              case rel => exact ⟨q - 1, r + y1, HN, by omega, by have := HBb.out; omega, by congr 1; omega, by congr 1⟩
              case measure => first | (simp [intOf]; done) | (simp [intOf]; omega)
          · obtain ⟨P, hP⟩ : ∃ P, q * y0 = P := ⟨_, rfl⟩
            have hPb : P ≤ 4294967295 * 4294967295 := by rw [← hP]; exact Nat.mul_le_mul (by omega) (by omega)
            have hPI : IntKind.u64.wrap ((q : Int) * (y0 : Int)) = (P : Int) := by rw [← Int.natCast_mul, hP, IntKind.wrap_u64]; omega
            have hqs : (q : Int) < 4294967296 := by omega
            have hP2 : (P : Int) ≤ 18446744065119617025 := by omega
            clear hPb c1
            by_cases c2 : (4294967296 : Int) * (r : Int) + (u0 : Int) < (P : Int)
            · have hQ1 : Q2 ≤ q - 1 := by
                have h := Dv.less_ok (B := 4294967296) (y1 := y1) (y0 := y0) (U := U2) (u1 := u0) hv0 HR.out.2.1 (by rw [hP]; omega)
                rw [← show v = y1 * 4294967296 + y0 from HD.out.1.1, HQ2.out] at h
                exact h
              have hq1 : 1 ≤ q := by
                rcases Nat.eq_zero_or_pos q with h | h
                · rw [h, Nat.zero_mul] at hP; omega
                · exact h
              have hq1I : (1 : Int) ≤ (q : Int) := by omega
              by_cases hb : (4294967296 : Int) ≤ (r : Int) + (y1 : Int)
              · have he : (q : Int) - 1 = (Q2 : Int) := by
                  have h := Dv.break_ok (B := 4294967296) (y1 := y1) (y0 := y0) (U := U2) (u1 := u0) (q := q - 1) (r := r + y1) hv0 (by omega) (Dv.down HR.out.2.1 (by omega)) (by rw [← show v = y1 * 4294967296 + y0 from HD.out.1.1, HQ2.out]; exact hQ1) (by omega) (by omega)
                  rw [← show v = y1 * 4294967296 + y0 from HD.out.1.1, HQ2.out] at h
                  omega
                clear hQ1 HR hq1 hP hv0
                go_upto_region 28 with (fail)
                clear he hb c2 hqI hrI hPI hP2 hqs hq1I
                obtain ⟨R2, hR2⟩ : ∃ R, (U2 * 4294967296 + u0) % v = R := ⟨_, rfl⟩
                have hdm6 : Q2 * v + R2 = U2 * 4294967296 + u0 := by rw [← HQ2.out, ← hR2, Nat.mul_comm]; exact Nat.div_add_mod _ _
                have hR2b : R2 < v := by rw [← hR2]; exact Nat.mod_lt _ (by have := HP.out; omega)
                have HR2 := Lib.hid (And.intro hR2 hR2b)
                obtain ⟨Y6, hY6⟩ : ∃ Y, Q2 * v = Y := ⟨_, rfl⟩
                rw [hY6] at hdm6
                obtain ⟨a6, ha6⟩ : ∃ a : Nat, IntKind.u64.wrap ((U2 : Int) * 4294967296) = (a : Int) := ⟨U2 * 4294967296 % 18446744073709551616, by rw [IntKind.wrap_u64]; omega⟩
                obtain ⟨b6, hb6⟩ : ∃ b : Nat, IntKind.u64.wrap ((a6 : Int) + (u0 : Int)) = (b : Int) := ⟨(a6 + u0) % 18446744073709551616, by rw [IntKind.wrap_u64]; omega⟩
                obtain ⟨c6, hc6⟩ : ∃ c : Nat, IntKind.u64.wrap ((Q2 : Int) * (v : Int)) = (c : Int) := ⟨Y6 % 18446744073709551616, by rw [← Int.natCast_mul, hY6, IntKind.wrap_u64]; omega⟩
                have hd6 : IntKind.u64.wrap ((b6 : Int) - (c6 : Int)) = (R2 : Int) := by
                  have e3 := hc6
                  rw [← Int.natCast_mul, hY6] at e3
                  have e1 := ha6
                  have e2 := hb6
                  rw [IntKind.wrap_u64] at e1 e2 e3 ⊢
                  have := HP.out
                  omega
                clear hdm6 hY6 hR2
                have hR2I : (R2 : Int) ≤ 18446744073709551615 := by have := HP.out; omega
                have hfin : Q1 * 4294967296 + Q2 = (hi * 18446744073709551616 + lo) / y ∧ R2 / 2 ^ s = (hi * 18446744073709551616 + lo) % y := by
                  have hs2 : 0 < 2 ^ s := Nat.pos_of_ne_zero (by simp)
                  have h1 := Dv.scaled (N := hi * 18446744073709551616 + lo) (y := y) hs2
                  have h2 := HWD.out.1
                  have h3 := HWD.out.2.2.2.2
                  rw [h3] at h1
                  have h4 := Dv.two_digits (B := 4294967296) (v := v) (U := U) (u1 := u1) (u0 := u0) (by have := HP.out; omega) (by decide) (by omega)
                  rw [HQ1.out, HU2.out.1, HQ2.out, HR2.out.1] at h4
                  have h5 : (hi * 18446744073709551616 + lo) * 2 ^ s = (U * 4294967296 + u1) * 4294967296 + u0 := by
                    have h6 : (hi * 18446744073709551616 + lo) * 2 ^ s = U * 2 ^ 64 + L := h2
                    rw [h6, Nat.add_mul, Nat.mul_assoc]
                    have := HD.out.2
                    omega
                  rw [h5, h4.1, h4.2] at h1
                  exact ⟨h1.1, h1.2⟩
                have e1 : (RQ : Int) = (Q1 : Int) * 4294967296 + (Q2 : Int) := by rw [← HRQ.out.1, ← hfin.1]; simp
                have e2 : (RR : Int) = (R2 : Int) / 2 ^ s := by rw [← HRQ.out.2, ← hfin.2, Int.natCast_ediv, Int.natCast_pow]; rfl
                have HFN := Lib.hid (And.intro e1 e2)
                clear hfin e1 e2
                go_wp2
                go_ret2
                rw [HFN.out.1, HFN.out.2]
                exact ⟨rfl, rfl⟩
              · have HN : Hid (Q2 ≤ q - 1 ∧ U2 = (q - 1) * y1 + (r + y1) ∧ q - 1 ≤ 4294967297) := Lib.hid ⟨hQ1, Dv.down HR.out.2.1 hq1, by omega⟩
                have hb' : decide ((4294967296 : Int) ≤ (r : Int) + (y1 : Int)) = false ∧ Hid (¬ (4294967296 : Int) ≤ (r : Int) + (y1 : Int)) := ⟨by rw [decide_eq_false_iff_not]; exact hb, Lib.hid hb⟩
                obtain ⟨hb', HBb⟩ := hb'
                clear hQ1 HR hb hP hv0
                go_wp2
                go_round
                case rel => exact ⟨q - 1, r + y1, HN, by omega, by have := HBb.out; omega, by congr 1; omega, by congr 1⟩
                case measure => first | (simp [intOf]; done) | (simp [intOf]; omega)
            · have he : q = Q2 := by
                have h := Dv.stop_ok (B := 4294967296) (y1 := y1) (y0 := y0) (U := U2) (u1 := u0) (q := q) (r := r) hv0 HR.out.2.1 (by rw [← show v = y1 * 4294967296 + y0 from HD.out.1.1, HQ2.out]; exact HR.out.1) (by rw [hP]; omega)
                rw [← show v = y1 * 4294967296 + y0 from HD.out.1.1, HQ2.out] at h
                exact h
              have c2' : decide ((4294967296 : Int) * (r : Int) + (u0 : Int) < (P : Int)) = false := by rw [decide_eq_false_iff_not]; exact c2
              have HE9 := Lib.hid he.symm
              have hqs' : decide ((4294967296 : Int) ≤ (q : Int)) = false := by rw [decide_eq_false_iff_not]; omega
              clear HR c2 hP hv0 he hqs
              go_upto_region 28 with (fail)
              clear c2' hqI hrI hPI hP2 hqs'
              have he2 := HE9.out
              clear HE9
              subst he2
              obtain ⟨R2, hR2⟩ : ∃ R, (U2 * 4294967296 + u0) % v = R := ⟨_, rfl⟩
              have hdm6 : Q2 * v + R2 = U2 * 4294967296 + u0 := by rw [← HQ2.out, ← hR2, Nat.mul_comm]; exact Nat.div_add_mod _ _
              have hR2b : R2 < v := by rw [← hR2]; exact Nat.mod_lt _ (by have := HP.out; omega)
              have HR2 := Lib.hid (And.intro hR2 hR2b)
              obtain ⟨Y6, hY6⟩ : ∃ Y, Q2 * v = Y := ⟨_, rfl⟩
              rw [hY6] at hdm6
              obtain ⟨a6, ha6⟩ : ∃ a : Nat, IntKind.u64.wrap ((U2 : Int) * 4294967296) = (a : Int) := ⟨U2 * 4294967296 % 18446744073709551616, by rw [IntKind.wrap_u64]; omega⟩
              obtain ⟨b6, hb6⟩ : ∃ b : Nat, IntKind.u64.wrap ((a6 : Int) + (u0 : Int)) = (b : Int) := ⟨(a6 + u0) % 18446744073709551616, by rw [IntKind.wrap_u64]; omega⟩
              obtain ⟨c6, hc6⟩ : ∃ c : Nat, IntKind.u64.wrap ((Q2 : Int) * (v : Int)) = (c : Int) := ⟨Y6 % 18446744073709551616, by rw [← Int.natCast_mul, hY6, IntKind.wrap_u64]; omega⟩
              have hd6 : IntKind.u64.wrap ((b6 : Int) - (c6 : Int)) = (R2 : Int) := by
                have e3 := hc6
                rw [← Int.natCast_mul, hY6] at e3
                have e1 := ha6
                have e2 := hb6
                rw [IntKind.wrap_u64] at e1 e2 e3 ⊢
                have := HP.out
                omega
              clear hdm6 hY6 hR2
              have hR2I : (R2 : Int) ≤ 18446744073709551615 := by have := HP.out; omega
              have hfin : Q1 * 4294967296 + Q2 = (hi * 18446744073709551616 + lo) / y ∧ R2 / 2 ^ s = (hi * 18446744073709551616 + lo) % y := by
                have hs2 : 0 < 2 ^ s := Nat.pos_of_ne_zero (by simp)
                have h1 := Dv.scaled (N := hi * 18446744073709551616 + lo) (y := y) hs2
                have h2 := HWD.out.1
                have h3 := HWD.out.2.2.2.2
                rw [h3] at h1
                have h4 := Dv.two_digits (B := 4294967296) (v := v) (U := U) (u1 := u1) (u0 := u0) (by have := HP.out; omega) (by decide) (by omega)
                rw [HQ1.out, HU2.out.1, HQ2.out, HR2.out.1] at h4
                have h5 : (hi * 18446744073709551616 + lo) * 2 ^ s = (U * 4294967296 + u1) * 4294967296 + u0 := by
                  have h6 : (hi * 18446744073709551616 + lo) * 2 ^ s = U * 2 ^ 64 + L := h2
                  rw [h6, Nat.add_mul, Nat.mul_assoc]
                  have := HD.out.2
                  omega
                rw [h5, h4.1, h4.2] at h1
                exact ⟨h1.1, h1.2⟩
              have e1 : (RQ : Int) = (Q1 : Int) * 4294967296 + (Q2 : Int) := by rw [← HRQ.out.1, ← hfin.1]; simp
              have e2 : (RR : Int) = (R2 : Int) / 2 ^ s := by rw [← HRQ.out.2, ← hfin.2, Int.natCast_ediv, Int.natCast_pow]; rfl
              have HFN := Lib.hid (And.intro e1 e2)
              clear hfin e1 e2
              go_wp2
              go_ret2
              rw [HFN.out.1, HFN.out.2]
              exact ⟨rfl, rfl⟩
end W1
end Go.Proofs.YtcgpdijpppcbiaaGreatDoor
namespace Go.Proofs.YtcgpdijpppcbiaaGreatDoor
open Go.RowKit
set_option linter.unusedVariables false
namespace W1
theorem div64_any (hi lo y : Nat) (w : World) (hlo : lo < 18446744073709551616) (hhy : hi < y) (hy : y < 18446744073709551616) :
    Calls Tryz.prog 100 #[.int .u64 hi, .int .u64 lo, .int .u64 y] w fun e w' => e = .returned (.tuple #[.int .u64 (((hi * 18446744073709551616 + lo) / y : Nat) : Int), .int .u64 (((hi * 18446744073709551616 + lo) % y : Nat) : Int)]) ∧ ∃ n, w' = w.drewN n := by
  rcases Nat.eq_zero_or_pos hi with h | h
  · subst h
    rw [Nat.zero_mul, Nat.zero_add]
    exact div64_small lo y w hlo (by omega) hy
  · refine (div64_great hi lo y w hlo h hhy hy).mono ?_
    rintro e w' ⟨rfl, rfl⟩
    exact ⟨rfl, 0, rfl⟩
theorem rem64_any (hi lo y : Nat) (w : World) (hhi : hi < 18446744073709551616) (hlo : lo < 18446744073709551616) (hy0 : 0 < y) (hy : y < 18446744073709551616) :
    Calls Tryz.prog 99 #[.int .u64 hi, .int .u64 lo, .int .u64 y] w fun e w' => e = .returned (.int .u64 (((hi * 18446744073709551616 + lo) % y : Nat) : Int)) ∧ ∃ n, w' = w.drewN n := by
  have hm := Nat.mod_lt hi hy0
  have HD := Lib.hid (div64_any (hi % y) lo y w hlo hm hy)
  have hz : ((y : Int) == 0) = false := by simp; omega
  have hhI : (hi : Int) ≤ 18446744073709551615 := by omega
  have hyI : (y : Int) ≤ 18446744073709551615 := by omega
  have hy0I : (0 : Int) < (y : Int) := by omega
  obtain ⟨m, hm2⟩ : ∃ m, hi % y = m := ⟨_, rfl⟩
  have hmI : (hi : Int) % (y : Int) = (m : Int) := by rw [← hm2]; rfl
  rw [hm2] at HD
  have hr : (m * 18446744073709551616 + lo) % y = (hi * 18446744073709551616 + lo) % y := by
    rw [← hm2, Nat.add_mod, Nat.mul_mod, Nat.mod_mod, ← Nat.mul_mod, ← Nat.add_mod]
  rw [← hr]
  have hmb : (m : Int) ≤ 18446744073709551615 := by omega
  obtain ⟨R, hR⟩ : ∃ R, (m * 18446744073709551616 + lo) % y = R := ⟨_, rfl⟩
  obtain ⟨Q, hQ⟩ : ∃ R, (m * 18446744073709551616 + lo) / y = R := ⟨_, rfl⟩
  rw [hR]
  rw [hR, hQ] at HD
  clear hm hm2 hr hhi hlo hy hy0 hR hQ
  go_enter Tryz.func99, Tryz.ntmps99
  go_wp2_with (go_at_call 100; (with_reducible refine HD.out.mono ?_); rintro e w' ⟨rfl, n, rfl⟩)
  go_ret
  exact ⟨rfl, n, rfl⟩
end W1
end Go.Proofs.YtcgpdijpppcbiaaGreatDoor
namespace Go.Proofs.YtcgpdijpppcbiaaGreatDoor
open Go.RowKit
set_option linter.unusedVariables false
namespace W1
theorem ret_ok {k : IntKind} {a b : Int} {v : Value} (h : a = b) : Ending.returned (.tuple #[.int k a, v]) = .returned (.tuple #[.int k b, v]) := by rw [h]
set_option maxHeartbeats 400000 in
theorem app_add (a b c : Int) (w : World) (ha : U.Ok a) (hb : U.Ok b) :
    Calls Tryz.prog 81 #[.int .i64 1, .int .u64 a, .int .u64 b, .int .u64 c] w fun e w' => e = .returned (.tuple #[.int .u64 (U.add a b), .nilIface]) ∧ w = w' := by
  obtain ⟨a0, a1⟩ := ha
  obtain ⟨b0, b1⟩ := hb
  go_enter Tryz.func81, Tryz.ntmps81
  go_wp2
  go_ret2
  exact ⟨ret_ok (by unfold U.add; rw [IntKind.wrap_u64]), rfl⟩
set_option maxHeartbeats 400000 in
theorem app_sub (a b c : Int) (w : World) (ha : U.Ok a) (hb : U.Ok b) :
    Calls Tryz.prog 81 #[.int .i64 2, .int .u64 a, .int .u64 b, .int .u64 c] w fun e w' => e = .returned (.tuple #[.int .u64 (U.sub a b), .nilIface]) ∧ w = w' := by
  obtain ⟨a0, a1⟩ := ha
  obtain ⟨b0, b1⟩ := hb
  go_enter Tryz.func81, Tryz.ntmps81
  go_wp2
  go_ret2
  exact ⟨ret_ok (by unfold U.sub; rw [IntKind.wrap_u64, IntKind.wrap_u64]; omega), rfl⟩
set_option maxHeartbeats 400000 in
theorem app_mul (a b c : Int) (w : World) (ha : U.Ok a) (hb : U.Ok b) :
    Calls Tryz.prog 81 #[.int .i64 3, .int .u64 a, .int .u64 b, .int .u64 c] w fun e w' => e = .returned (.tuple #[.int .u64 (U.mul a b), .nilIface]) ∧ w = w' := by
  obtain ⟨a0, a1⟩ := ha
  obtain ⟨b0, b1⟩ := hb
  go_enter Tryz.func81, Tryz.ntmps81
  go_wp2
  go_ret2
  exact ⟨ret_ok (by unfold U.mul; rw [IntKind.wrap_u64]), rfl⟩
set_option maxHeartbeats 400000 in
theorem app_div (a b c : Int) (w : World) (ha : U.Ok a) (hb : U.Ok b) :
    Calls Tryz.prog 81 #[.int .i64 4, .int .u64 a, .int .u64 b, .int .u64 c] w fun e w' => e = .returned (.tuple #[.int .u64 (U.div a b), .nilIface]) ∧ w = w' := by
  obtain ⟨a0, a1⟩ := ha
  obtain ⟨b0, b1⟩ := hb
  by_cases h : b = 0
  · subst h
    go_enter Tryz.func81, Tryz.ntmps81
    go_wp2
    go_ret2
    exact ⟨ret_ok (rfl), rfl⟩
  · have hp : 1 ≤ b := by omega
    go_enter Tryz.func81, Tryz.ntmps81
    go_wp2
    go_ret2
    exact ⟨ret_ok (by unfold U.div; rw [if_neg h]), rfl⟩
set_option maxHeartbeats 400000 in
theorem app_mod (a b c : Int) (w : World) (ha : U.Ok a) (hb : U.Ok b) :
    Calls Tryz.prog 81 #[.int .i64 6, .int .u64 a, .int .u64 b, .int .u64 c] w fun e w' => e = .returned (.tuple #[.int .u64 (U.mod a b), .nilIface]) ∧ w = w' := by
  obtain ⟨a0, a1⟩ := ha
  obtain ⟨b0, b1⟩ := hb
  by_cases h : b = 0
  · subst h
    go_enter Tryz.func81, Tryz.ntmps81
    go_wp2
    go_ret2
    exact ⟨ret_ok (rfl), rfl⟩
  · have hp : 1 ≤ b := by omega
    go_enter Tryz.func81, Tryz.ntmps81
    go_wp2
    go_ret2
    exact ⟨ret_ok (by unfold U.mod; rw [if_neg h]), rfl⟩
set_option maxHeartbeats 400000 in
theorem app_lt (a b c : Int) (w : World) (ha : U.Ok a) (hb : U.Ok b) :
    Calls Tryz.prog 81 #[.int .i64 16, .int .u64 a, .int .u64 b, .int .u64 c] w fun e w' => e = .returned (.tuple #[.int .u64 (U.lt a b), .nilIface]) ∧ w = w' := by
  obtain ⟨a0, a1⟩ := ha
  obtain ⟨b0, b1⟩ := hb
  by_cases h : a < b
  · have hd : decide (a < b) = true := by simpa using h
    go_enter Tryz.func81, Tryz.ntmps81
    go_wp2
    go_ret2
    exact ⟨ret_ok (by simp [U.lt, U.b2, h]), rfl⟩
  · have hd : decide (a < b) = false := by simpa using h
    go_enter Tryz.func81, Tryz.ntmps81
    go_wp2
    go_ret2
    exact ⟨ret_ok (by simp [U.lt, U.b2, h]), rfl⟩
set_option maxHeartbeats 400000 in
theorem app_gt (a b c : Int) (w : World) (ha : U.Ok a) (hb : U.Ok b) :
    Calls Tryz.prog 81 #[.int .i64 17, .int .u64 a, .int .u64 b, .int .u64 c] w fun e w' => e = .returned (.tuple #[.int .u64 (U.gt a b), .nilIface]) ∧ w = w' := by
  obtain ⟨a0, a1⟩ := ha
  obtain ⟨b0, b1⟩ := hb
  by_cases h : b < a
  · have hd : decide (b < a) = true := by simpa using h
    go_enter Tryz.func81, Tryz.ntmps81
    go_wp2
    go_ret2
    exact ⟨ret_ok (by simp [U.gt, U.b2, h]), rfl⟩
  · have hd : decide (b < a) = false := by simpa using h
    go_enter Tryz.func81, Tryz.ntmps81
    go_wp2
    go_ret2
    exact ⟨ret_ok (by simp [U.gt, U.b2, h]), rfl⟩
set_option maxHeartbeats 400000 in
theorem app_slt (a b c : Int) (w : World) (ha : U.Ok a) (hb : U.Ok b) :
    Calls Tryz.prog 81 #[.int .i64 18, .int .u64 a, .int .u64 b, .int .u64 c] w fun e w' => e = .returned (.tuple #[.int .u64 (U.slt a b), .nilIface]) ∧ w = w' := by
  obtain ⟨a0, a1⟩ := ha
  obtain ⟨b0, b1⟩ := hb
  have e1 := U.wrap64_sg a ⟨a0, a1⟩
  have e2 := U.wrap64_sg b ⟨b0, b1⟩
  by_cases h : U.sg a < U.sg b
  · have hd : decide (U.sg a < U.sg b) = true := by simpa using h
    go_enter Tryz.func81, Tryz.ntmps81
    go_wp2
    go_ret2
    exact ⟨ret_ok (by simp [U.slt, U.b2, h]), rfl⟩
  · have hd : decide (U.sg a < U.sg b) = false := by simpa using h
    go_enter Tryz.func81, Tryz.ntmps81
    go_wp2
    go_ret2
    exact ⟨ret_ok (by simp [U.slt, U.b2, h]), rfl⟩
set_option maxHeartbeats 400000 in
theorem app_sgt (a b c : Int) (w : World) (ha : U.Ok a) (hb : U.Ok b) :
    Calls Tryz.prog 81 #[.int .i64 19, .int .u64 a, .int .u64 b, .int .u64 c] w fun e w' => e = .returned (.tuple #[.int .u64 (U.sgt a b), .nilIface]) ∧ w = w' := by
  obtain ⟨a0, a1⟩ := ha
  obtain ⟨b0, b1⟩ := hb
  have e1 := U.wrap64_sg a ⟨a0, a1⟩
  have e2 := U.wrap64_sg b ⟨b0, b1⟩
  by_cases h : U.sg b < U.sg a
  · have hd : decide (U.sg b < U.sg a) = true := by simpa using h
    go_enter Tryz.func81, Tryz.ntmps81
    go_wp2
    go_ret2
    exact ⟨ret_ok (by simp [U.sgt, U.b2, h]), rfl⟩
  · have hd : decide (U.sg b < U.sg a) = false := by simpa using h
    go_enter Tryz.func81, Tryz.ntmps81
    go_wp2
    go_ret2
    exact ⟨ret_ok (by simp [U.sgt, U.b2, h]), rfl⟩
set_option maxHeartbeats 400000 in
theorem app_eq (a b c : Int) (w : World) (ha : U.Ok a) (hb : U.Ok b) :
    Calls Tryz.prog 81 #[.int .i64 20, .int .u64 a, .int .u64 b, .int .u64 c] w fun e w' => e = .returned (.tuple #[.int .u64 (U.eq a b), .nilIface]) ∧ w = w' := by
  obtain ⟨a0, a1⟩ := ha
  obtain ⟨b0, b1⟩ := hb
  by_cases h : a = b
  · have hd : (a == b) = true := by simpa using h
    go_enter Tryz.func81, Tryz.ntmps81
    go_wp2
    go_ret2
    exact ⟨ret_ok (by simp [U.eq, U.b2, h]), rfl⟩
  · have hd : (a == b) = false := by simpa using h
    go_enter Tryz.func81, Tryz.ntmps81
    go_wp2
    go_ret2
    exact ⟨ret_ok (by simp [U.eq, U.b2, h]), rfl⟩
set_option maxHeartbeats 400000 in
theorem app_isz (a b c : Int) (w : World) (ha : U.Ok a) (hb : U.Ok b) :
    Calls Tryz.prog 81 #[.int .i64 21, .int .u64 a, .int .u64 b, .int .u64 c] w fun e w' => e = .returned (.tuple #[.int .u64 (U.isz a), .nilIface]) ∧ w = w' := by
  obtain ⟨a0, a1⟩ := ha
  obtain ⟨b0, b1⟩ := hb
  by_cases h : a = 0
  · have hd : (a == 0) = true := by simpa using h
    go_enter Tryz.func81, Tryz.ntmps81
    go_wp2
    go_ret2
    exact ⟨ret_ok (by simp [U.isz, U.b2, h]), rfl⟩
  · have hd : (a == 0) = false := by simpa using h
    go_enter Tryz.func81, Tryz.ntmps81
    go_wp2
    go_ret2
    exact ⟨ret_ok (by simp [U.isz, U.b2, h]), rfl⟩
set_option maxHeartbeats 400000 in
theorem app_and (a b c : Int) (w : World) (ha : U.Ok a) (hb : U.Ok b) :
    Calls Tryz.prog 81 #[.int .i64 22, .int .u64 a, .int .u64 b, .int .u64 c] w fun e w' => e = .returned (.tuple #[.int .u64 (U.and a b), .nilIface]) ∧ w = w' := by
  obtain ⟨a0, a1⟩ := ha
  obtain ⟨b0, b1⟩ := hb
  go_enter Tryz.func81, Tryz.ntmps81
  go_wp2
  go_ret2
  exact ⟨ret_ok (by unfold U.and; first | rfl | exact u64_and a b a0 (by omega) b0 (by omega)), rfl⟩
set_option maxHeartbeats 400000 in
theorem app_or (a b c : Int) (w : World) (ha : U.Ok a) (hb : U.Ok b) :
    Calls Tryz.prog 81 #[.int .i64 23, .int .u64 a, .int .u64 b, .int .u64 c] w fun e w' => e = .returned (.tuple #[.int .u64 (U.or a b), .nilIface]) ∧ w = w' := by
  obtain ⟨a0, a1⟩ := ha
  obtain ⟨b0, b1⟩ := hb
  go_enter Tryz.func81, Tryz.ntmps81
  go_wp2
  go_ret2
  exact ⟨ret_ok (by unfold U.or; first | rfl | exact u64_or a b a0 (by omega) b0 (by omega)), rfl⟩
set_option maxHeartbeats 400000 in
theorem app_xor (a b c : Int) (w : World) (ha : U.Ok a) (hb : U.Ok b) :
    Calls Tryz.prog 81 #[.int .i64 24, .int .u64 a, .int .u64 b, .int .u64 c] w fun e w' => e = .returned (.tuple #[.int .u64 (U.xor a b), .nilIface]) ∧ w = w' := by
  obtain ⟨a0, a1⟩ := ha
  obtain ⟨b0, b1⟩ := hb
  go_enter Tryz.func81, Tryz.ntmps81
  go_wp2
  go_ret2
  exact ⟨ret_ok (by unfold U.xor; first | rfl | exact u64_xor a b a0 (by omega) b0 (by omega)), rfl⟩
set_option maxHeartbeats 400000 in
theorem app_not (a b c : Int) (w : World) (ha : U.Ok a) (hb : U.Ok b) :
    Calls Tryz.prog 81 #[.int .i64 25, .int .u64 a, .int .u64 b, .int .u64 c] w fun e w' => e = .returned (.tuple #[.int .u64 (U.not a), .nilIface]) ∧ w = w' := by
  obtain ⟨a0, a1⟩ := ha
  obtain ⟨b0, b1⟩ := hb
  go_enter Tryz.func81, Tryz.ntmps81
  go_wp2
  go_ret2
  exact ⟨ret_ok (by unfold U.not; rw [u64_xor a 18446744073709551615 a0 (by omega) (by omega) (by omega)]; have h := Bt.xor_ones a.toNat (by omega); simp at h ⊢; omega), rfl⟩
set_option maxHeartbeats 400000 in
theorem app_shl (a b c : Int) (w : World) (ha : U.Ok a) (hb : U.Ok b) :
    Calls Tryz.prog 81 #[.int .i64 13, .int .u64 a, .int .u64 b, .int .u64 c] w fun e w' => e = .returned (.tuple #[.int .u64 (U.shl a b), .nilIface]) ∧ w = w' := by
  obtain ⟨a0, a1⟩ := ha
  obtain ⟨b0, b1⟩ := hb
  have hm : (0 : Int) < 2 ^ min a.toNat 64 := U.p2 _
  go_enter Tryz.func81, Tryz.ntmps81
  go_wp2
  go_ret2
  exact ⟨ret_ok (by unfold U.shl; rw [IntKind.wrap_u64]), rfl⟩
set_option maxHeartbeats 400000 in
theorem app_shr (a b c : Int) (w : World) (ha : U.Ok a) (hb : U.Ok b) :
    Calls Tryz.prog 81 #[.int .i64 14, .int .u64 a, .int .u64 b, .int .u64 c] w fun e w' => e = .returned (.tuple #[.int .u64 (U.shr a b), .nilIface]) ∧ w = w' := by
  obtain ⟨a0, a1⟩ := ha
  obtain ⟨b0, b1⟩ := hb
  have hm : (0 : Int) < 2 ^ min a.toNat 64 := U.p2 _
  go_enter Tryz.func81, Tryz.ntmps81
  go_wp2
  go_ret2
  exact ⟨ret_ok (by unfold U.shr; rfl), rfl⟩
set_option maxHeartbeats 400000 in
theorem app_sar (a b c : Int) (w : World) (ha : U.Ok a) (hb : U.Ok b) :
    Calls Tryz.prog 81 #[.int .i64 15, .int .u64 a, .int .u64 b, .int .u64 c] w fun e w' => e = .returned (.tuple #[.int .u64 (U.sar a b), .nilIface]) ∧ w = w' := by
  obtain ⟨a0, a1⟩ := ha
  obtain ⟨b0, b1⟩ := hb
  have hm : (0 : Int) < 2 ^ min a.toNat 64 := U.p2 _
  have e2 := U.wrap64_sg b ⟨b0, b1⟩
  go_enter Tryz.func81, Tryz.ntmps81
  go_wp2
  go_ret2
  exact ⟨ret_ok (by unfold U.sar; rw [IntKind.wrap_u64]), rfl⟩
set_option maxHeartbeats 400000 in
theorem app_byte (a b c : Int) (w : World) (ha : U.Ok a) (hb : U.Ok b) :
    Calls Tryz.prog 81 #[.int .i64 12, .int .u64 a, .int .u64 b, .int .u64 c] w fun e w' => e = .returned (.tuple #[.int .u64 (U.byte a b), .nilIface]) ∧ w = w' := by
  obtain ⟨a0, a1⟩ := ha
  obtain ⟨b0, b1⟩ := hb
  by_cases h : 7 < a
  · skip
    go_enter Tryz.func81, Tryz.ntmps81
    go_wp2
    go_ret2
    exact ⟨ret_ok (by unfold U.byte; rw [if_pos h]), rfl⟩
  · skip
    go_enter Tryz.func81, Tryz.ntmps81
    go_wp2
    go_ret2
    exact ⟨ret_ok (by unfold U.byte; rw [if_neg (by omega)]; exact U.and_255 _ (Int.ediv_nonneg b0 (Int.le_of_lt (U.p2 _))) (by have := Int.ediv_le_self (2 ^ (56 - 8 * a).toNat) b0; omega)), rfl⟩
set_option maxHeartbeats 400000 in
theorem app_sext (a b c : Int) (w : World) (ha : U.Ok a) (hb : U.Ok b) :
    Calls Tryz.prog 81 #[.int .i64 11, .int .u64 a, .int .u64 b, .int .u64 c] w fun e w' => e = .returned (.tuple #[.int .u64 (U.sext a b), .nilIface]) ∧ w = w' := by
  obtain ⟨a0, a1⟩ := ha
  obtain ⟨b0, b1⟩ := hb
  by_cases h : 7 ≤ a
  · skip
    go_enter Tryz.func81, Tryz.ntmps81
    go_wp2
    go_ret2
    exact ⟨ret_ok (by unfold U.sext; rw [if_pos (by omega)]), rfl⟩
  · have hm : (0 : Int) < 2 ^ (56 - 8 * a).toNat := U.p2 _
    have e2 := U.wrap64_sg _ (U.mulp_ok b (56 - 8 * a).toNat)
    go_enter Tryz.func81, Tryz.ntmps81
    go_wp2
    go_ret2
    exact ⟨ret_ok (by unfold U.sext; rw [if_neg (by omega), IntKind.wrap_u64, IntKind.wrap_u64, e2]), rfl⟩
set_option maxHeartbeats 400000 in
theorem app_sdiv (a b c : Int) (w : World) (ha : U.Ok a) (hb : U.Ok b) :
    Calls Tryz.prog 81 #[.int .i64 5, .int .u64 a, .int .u64 b, .int .u64 c] w fun e w' => e = .returned (.tuple #[.int .u64 (U.sdiv a b), .nilIface]) ∧ w = w' := by
  obtain ⟨a0, a1⟩ := ha
  obtain ⟨b0, b1⟩ := hb
  have e1 := U.wrap64_sg a ⟨a0, a1⟩
  have e2 := U.wrap64_sg b ⟨b0, b1⟩
  by_cases h : b = 0
  · subst h
    go_enter Tryz.func81, Tryz.ntmps81
    go_wp2
    go_ret2
    exact ⟨ret_ok (rfl), rfl⟩
  · have hz : U.sg b ≠ 0 := U.sg_ne h ⟨b0, b1⟩
    go_enter Tryz.func81, Tryz.ntmps81
    go_wp2
    go_ret2
    exact ⟨ret_ok (by unfold U.sdiv; rw [if_neg h, IntKind.wrap_u64]; unfold wrap64; omega), rfl⟩
set_option maxHeartbeats 400000 in
theorem app_smod (a b c : Int) (w : World) (ha : U.Ok a) (hb : U.Ok b) :
    Calls Tryz.prog 81 #[.int .i64 7, .int .u64 a, .int .u64 b, .int .u64 c] w fun e w' => e = .returned (.tuple #[.int .u64 (U.smod a b), .nilIface]) ∧ w = w' := by
  obtain ⟨a0, a1⟩ := ha
  obtain ⟨b0, b1⟩ := hb
  have e1 := U.wrap64_sg a ⟨a0, a1⟩
  have e2 := U.wrap64_sg b ⟨b0, b1⟩
  by_cases h : b = 0
  · subst h
    go_enter Tryz.func81, Tryz.ntmps81
    go_wp2
    go_ret2
    exact ⟨ret_ok (rfl), rfl⟩
  · have hz : U.sg b ≠ 0 := U.sg_ne h ⟨b0, b1⟩
    go_enter Tryz.func81, Tryz.ntmps81
    go_wp2
    go_ret2
    exact ⟨ret_ok (by unfold U.smod; rw [if_neg h, IntKind.wrap_u64]), rfl⟩
end W1
end Go.Proofs.YtcgpdijpppcbiaaGreatDoor
namespace Go.Proofs.YtcgpdijpppcbiaaGreatDoor
open Go.RowKit
set_option linter.unusedVariables false
namespace W1
theorem add64_run (x y : Nat) (w : World) : (callFunc 94 #[.int .u64 x, .int .u64 y, .int .u64 0]).run Tryz.prog w =
    .ok (.value (.tuple #[.int .u64 (((x : Int) + y) % 18446744073709551616), .int .u64 (((x : Int) + y) / 18446744073709551616)])) w := by
  have h := @run_callFunc_extern Tryz.prog 94 _ add64Entry Tryz.func94 (by kernel_rfl) (by kernel_rfl) (by kernel_rfl) (by kernel_rfl)
  rw [h, run_add64 x y 0 (by omega) (by omega) (by omega) (by omega)]
  simp [Result.andThen]
/-- A rest by a third word. -/
theorem rest_zero (h l : Int) (w : World) : Calls Tryz.prog 95 #[.int .u64 h, .int .u64 l, .int .u64 0] w fun e w' => e = .returned (.int .u64 0) ∧ ∃ k, w' = w.drewN k := by
  go_enter Tryz.func95, Tryz.ntmps95
  go_wp2
  go_ret
  exact ⟨rfl, 0, rfl⟩
theorem rest_any (h l n : Nat) (w : World) (hh : h < 18446744073709551616) (hl : l < 18446744073709551616) (hn : n < 18446744073709551616) :
    Calls Tryz.prog 95 #[.int .u64 h, .int .u64 l, .int .u64 n] w fun e w' => e = .returned (.int .u64 ((if n = 0 then 0 else (h * 18446744073709551616 + l) % n : Nat) : Int)) ∧ ∃ k, w' = w.drewN k := by
  rcases Nat.eq_zero_or_pos n with h0 | h0
  · subst h0
    rw [if_pos rfl]
    exact rest_zero h l w
  · rw [if_neg (by omega)]
    have HR := Lib.hid (rem64_any h l n w hh hl h0 hn)
    have hz : ((n : Int) == 0) = false := by simp; omega
    obtain ⟨R, hR⟩ : ∃ R, (h * 18446744073709551616 + l) % n = R := ⟨_, rfl⟩
    rw [hR] at HR ⊢
    clear hh hl hn h0 hR
    go_enter Tryz.func95, Tryz.ntmps95
    go_wp2_with (go_at_call 99; (with_reducible refine HR.out.mono ?_); rintro e w' ⟨rfl, k, rfl⟩)
    go_ret
    exact ⟨rfl, k, rfl⟩
theorem arith_addmod (a b c : Nat) (w : World) (ha : a < 18446744073709551616) (hb : b < 18446744073709551616) (hc : c < 18446744073709551616) :
    Calls Tryz.prog 87 #[.int .i64 8, .int .u64 a, .int .u64 b, .int .u64 c] w fun e w' => e = .returned (.int .u64 ((if c = 0 then 0 else (a + b) % c : Nat) : Int)) ∧ ∃ k, w' = w.drewN k := by
  have hx := add64_run a b
  obtain ⟨s, hs⟩ : ∃ s : Nat, ((a : Int) + b) % 18446744073709551616 = (s : Int) := ⟨(a + b) % 18446744073709551616, by omega⟩
  obtain ⟨t, ht⟩ : ∃ s : Nat, ((a : Int) + b) / 18446744073709551616 = (s : Int) := ⟨(a + b) / 18446744073709551616, by omega⟩
  have hr := rest_any t s c w (by omega) (by omega) hc
  rw [show t * 18446744073709551616 + s = a + b by omega] at hr
  have HR := Lib.hid hr
  simp only [hs, ht] at hx
  obtain ⟨V, hV⟩ : ∃ V, (if c = 0 then 0 else (a + b) % c) = V := ⟨_, rfl⟩
  rw [hV] at HR ⊢
  clear ha hb hc hr hs ht hV
  go_enter Tryz.func87, Tryz.ntmps87
  go_wp2_with (go_at_call 95; (with_reducible refine HR.out.mono ?_); rintro e w' ⟨rfl, k, rfl⟩)
  go_ret
  exact ⟨rfl, k, rfl⟩
theorem app_addmod (a b c : Nat) (w : World) (ha : a < 18446744073709551616) (hb : b < 18446744073709551616) (hc : c < 18446744073709551616) :
    Calls Tryz.prog 81 #[.int .i64 8, .int .u64 a, .int .u64 b, .int .u64 c] w fun e w' => e = .returned (.tuple #[.int .u64 ((if c = 0 then 0 else (a + b) % c : Nat) : Int), .nilIface]) ∧ ∃ k, w' = w.drewN k := by
  have HR := Lib.hid (arith_addmod a b c w ha hb hc)
  obtain ⟨V, hV⟩ : ∃ V, (if c = 0 then 0 else (a + b) % c) = V := ⟨_, rfl⟩
  rw [hV] at HR ⊢
  clear ha hb hc hV
  go_enter Tryz.func81, Tryz.ntmps81
  go_wp2_with (go_at_call 87; (with_reducible refine HR.out.mono ?_); rintro e w' ⟨rfl, k, rfl⟩)
  go_ret2
  exact ⟨rfl, k, rfl⟩
theorem arith_mulmod (a b c : Nat) (w : World) (ha : a < 18446744073709551616) (hb : b < 18446744073709551616) (hc : c < 18446744073709551616) :
    Calls Tryz.prog 87 #[.int .i64 9, .int .u64 a, .int .u64 b, .int .u64 c] w fun e w' => e = .returned (.int .u64 ((if c = 0 then 0 else a * b % c : Nat) : Int)) ∧ ∃ k, w' = w.drewN k := by
  have hm := Tryz.bits_Mul64 a b ha hb w
  have hHb : a * b / 18446744073709551616 < 18446744073709551616 := Nat.div_lt_of_lt_mul (Nat.mul_lt_mul'' ha hb)
  have hLb : a * b % 18446744073709551616 < 18446744073709551616 := Nat.mod_lt _ (by decide)
  have hHL := Nat.div_add_mod' (a * b) 18446744073709551616
  obtain ⟨H, hH⟩ : ∃ H, a * b / 18446744073709551616 = H := ⟨_, rfl⟩
  obtain ⟨Lw, hLw⟩ : ∃ H, a * b % 18446744073709551616 = H := ⟨_, rfl⟩
  rw [hH, hLw] at hm hHL
  rw [hH] at hHb
  rw [hLw] at hLb
  have hr := rest_any H Lw c w hHb hLb hc
  rw [hHL] at hr
  have HR := Lib.hid hr
  have HM := Lib.hid hm
  obtain ⟨V, hV⟩ : ∃ V, (if c = 0 then 0 else a * b % c) = V := ⟨_, rfl⟩
  rw [hV] at HR ⊢
  clear ha hb hc hr hm hHb hLb hHL hH hLw hV
  go_enter Tryz.func87, Tryz.ntmps87
  go_wp2_with (first
    | (go_at_call 96; (with_reducible refine HM.out.mono ?_); rintro e w' ⟨rfl, hw'⟩; have hw2 := hw'.symm; clear hw'; subst hw2)
    | (go_at_call 95; (with_reducible refine HR.out.mono ?_); rintro e w' ⟨rfl, k, rfl⟩))
  go_ret
  exact ⟨rfl, k, rfl⟩
theorem app_mulmod (a b c : Nat) (w : World) (ha : a < 18446744073709551616) (hb : b < 18446744073709551616) (hc : c < 18446744073709551616) :
    Calls Tryz.prog 81 #[.int .i64 9, .int .u64 a, .int .u64 b, .int .u64 c] w fun e w' => e = .returned (.tuple #[.int .u64 ((if c = 0 then 0 else a * b % c : Nat) : Int), .nilIface]) ∧ ∃ k, w' = w.drewN k := by
  have HR := Lib.hid (arith_mulmod a b c w ha hb hc)
  obtain ⟨V, hV⟩ : ∃ V, (if c = 0 then 0 else a * b % c) = V := ⟨_, rfl⟩
  rw [hV] at HR ⊢
  clear ha hb hc hV
  go_enter Tryz.func81, Tryz.ntmps81
  go_wp2_with (go_at_call 87; (with_reducible refine HR.out.mono ?_); rintro e w' ⟨rfl, k, rfl⟩)
  go_ret2
  exact ⟨rfl, k, rfl⟩
/-- How many operands; an error's number. -/
def argN (op : Int) : Int := if op < 1 ∨ 25 < op then 0 else if op = 8 ∨ op = 9 then 3 else if op = 21 ∨ op = 25 then 1 else 2
def argE (op : Int) : Int := if op < 1 ∨ 25 < op then 10 else 0
end W1
end Go.Proofs.YtcgpdijpppcbiaaGreatDoor
