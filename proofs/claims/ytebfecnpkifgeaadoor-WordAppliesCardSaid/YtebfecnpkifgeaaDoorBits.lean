/-
  Plain facts on bits and on numbers below 2^64. Own work; no Go in sight.
-/
import Derived.Laws.BitsAllLaws
namespace Go.Proofs.YtebfecnpkifgeaaDoor
namespace Bt
theorem or_add_and (x : Nat) : ∀ y, (x ||| y) + (x &&& y) = x + y := by
  induction x using Nat.strongRecOn with
  | _ x ih =>
    intro y
    by_cases hx : x = 0
    · subst hx; simp
    · have h := ih (x / 2) (by omega) (y / 2)
      have a1 := Nat.or_div_two (a := x) (b := y)
      have a2 := Nat.and_div_two (a := x) (b := y)
      have b1 : (x ||| y) % 2 = (x % 2 ||| y % 2) := Nat.or_mod_two_pow (n := 1)
      have b2 : (x &&& y) % 2 = (x % 2 &&& y % 2) := Nat.and_mod_two_pow (n := 1)
      have c : (x % 2 ||| y % 2) + (x % 2 &&& y % 2) = x % 2 + y % 2 := by
        rcases Nat.mod_two_eq_zero_or_one x with h1 | h1 <;> rcases Nat.mod_two_eq_zero_or_one y with h2 | h2 <;> rw [h1, h2] <;> rfl
      rw [← b1, ← b2] at c
      rw [← a1, ← a2] at h
      omega
theorem xor_add_and (x : Nat) : ∀ y, (x ^^^ y) + (x &&& y) = (x ||| y) := by
  induction x using Nat.strongRecOn with
  | _ x ih =>
    intro y
    by_cases hx : x = 0
    · subst hx; simp
    · have h := ih (x / 2) (by omega) (y / 2)
      have a0 := Nat.xor_div_two (a := x) (b := y)
      have a1 := Nat.or_div_two (a := x) (b := y)
      have a2 := Nat.and_div_two (a := x) (b := y)
      have b0 : (x ^^^ y) % 2 = (x % 2 ^^^ y % 2) := Nat.xor_mod_two_pow (n := 1)
      have b1 : (x ||| y) % 2 = (x % 2 ||| y % 2) := Nat.or_mod_two_pow (n := 1)
      have b2 : (x &&& y) % 2 = (x % 2 &&& y % 2) := Nat.and_mod_two_pow (n := 1)
      have c : (x % 2 ^^^ y % 2) + (x % 2 &&& y % 2) = (x % 2 ||| y % 2) := by
        rcases Nat.mod_two_eq_zero_or_one x with h1 | h1 <;> rcases Nat.mod_two_eq_zero_or_one y with h2 | h2 <;> rw [h1, h2] <;> rfl
      rw [← b0, ← b1, ← b2] at c
      rw [← a0, ← a1, ← a2] at h
      omega
theorem and_top_lo (x : Nat) (h : x < 9223372036854775808) : x &&& 9223372036854775808 = 0 := by
  have t : x.testBit 63 = false := Nat.testBit_lt_two_pow (by simpa using h)
  apply Nat.eq_of_testBit_eq
  intro i
  rw [Nat.testBit_and, show (9223372036854775808 : Nat) = 2 ^ 63 by rfl, Nat.testBit_two_pow, Nat.zero_testBit]
  by_cases hi : 63 = i
  · subst hi; simp [t]
  · simp [hi]
theorem xor_top (x : Nat) (h : x < 18446744073709551616) : x ^^^ 9223372036854775808 = if x < 9223372036854775808 then x + 9223372036854775808 else x - 9223372036854775808 := by
  split
  · rename_i hx
    have h1 := xor_add_and x 9223372036854775808
    have h2 := or_add_and x 9223372036854775808
    rw [and_top_lo x hx] at h1 h2
    omega
  · rename_i hx
    have e : x = (x - 9223372036854775808) ^^^ 9223372036854775808 := by
      have h1 := xor_add_and (x - 9223372036854775808) 9223372036854775808
      have h2 := or_add_and (x - 9223372036854775808) 9223372036854775808
      rw [and_top_lo _ (by omega)] at h1 h2
      omega
    generalize hz : x - 9223372036854775808 = z at *
    rw [e, Nat.xor_assoc, Nat.xor_self, Nat.xor_zero]
theorem xor_ones (x : Nat) (h : x < 18446744073709551616) : x ^^^ 18446744073709551615 = 18446744073709551615 - x := by
  apply Nat.eq_of_testBit_eq
  intro i
  rw [Nat.testBit_xor, show (18446744073709551615 : Nat) - x = 2 ^ 64 - (x + 1) by omega, Nat.testBit_two_pow_sub_succ (by simpa using h), show (18446744073709551615 : Nat) = 2 ^ 64 - 1 by rfl, Nat.testBit_two_pow_sub_one]
  by_cases hi : i < 64
  · simp [hi]
  · have : x.testBit i = false := Nat.testBit_lt_two_pow (Nat.lt_of_lt_of_le (by simpa using h : x < 2 ^ 64) (Nat.pow_le_pow_right (by decide) (by omega)))
    simp [hi, this]
theorem de_morgan (x y : Nat) (hx : x < 18446744073709551616) (hy : y < 18446744073709551616) : 18446744073709551615 - (x &&& y) = (18446744073709551615 - x) ||| (18446744073709551615 - y) := by
  have hxy : x &&& y < 18446744073709551616 := Nat.lt_of_le_of_lt Nat.and_le_left hx
  apply Nat.eq_of_testBit_eq
  intro i
  rw [Nat.testBit_or, show (18446744073709551615 : Nat) - (x &&& y) = 2 ^ 64 - ((x &&& y) + 1) by omega, show (18446744073709551615 : Nat) - x = 2 ^ 64 - (x + 1) by omega, show (18446744073709551615 : Nat) - y = 2 ^ 64 - (y + 1) by omega,
    Nat.testBit_two_pow_sub_succ (by simpa using hxy), Nat.testBit_two_pow_sub_succ (by simpa using hx), Nat.testBit_two_pow_sub_succ (by simpa using hy), Nat.testBit_and]
  by_cases hi : i < 64 <;> simp [hi]
end Bt
end Go.Proofs.YtebfecnpkifgeaaDoor
