/-
  Layer 1: the plain laws of quotients, shifts and signs. Own work; no Go in sight.
-/
import Derived.Test.YtebfecnpkifgeaaWord2
namespace Go.Proofs.Ytebfecnpkifgeaa
set_option linter.unusedVariables false
namespace U
theorem div_back (a b : Int) (ha : Ok a) (hb : ¬ b = 0) : add (mul (div a b) b) (mod a b) = a := by
  unfold add mul div mod
  rw [if_neg hb, if_neg hb]
  have h := Int.emod_add_mul_ediv a b
  rw [Int.mul_comm] at h
  unfold Ok at ha
  omega
theorem sgm (b : Int) : sg b % 18446744073709551616 = b % 18446744073709551616 := by unfold sg; split <;> omega
theorem sdiv_back (a b : Int) (ha : Ok a) (hb : ¬ b = 0) : add (mul (sdiv a b) b) (smod a b) = a := by
  unfold add mul sdiv smod
  rw [if_neg hb, if_neg hb, mulL, Int.mul_emod, ← sgm b, ← Int.mul_emod]
  have h := Int.tmod_add_mul_tdiv (sg a) (sg b)
  rw [Int.mul_comm] at h
  have h2 := sgm a
  unfold Ok at ha
  omega
theorem mod_lt (a b : Int) (hb0 : Ok b) (hb : ¬ b = 0) : lt (mod a b) b = 1 := by
  unfold Ok at hb0
  unfold lt mod
  rw [if_neg hb]
  have h2 := Int.emod_lt_of_pos a (show 0 < b by omega)
  simp [b2, h2]
theorem div_zero (a : Int) : div a 0 = 0 ∧ mod a 0 = 0 ∧ sdiv a 0 = 0 ∧ smod a 0 = 0 := by simp [div, mod, sdiv, smod]
theorem xor_back (a b : Int) (ha : Ok a) : xor (xor a b) b = a := by
  unfold Ok at ha
  unfold xor
  rw [Int.toNat_natCast, Nat.xor_assoc, Nat.xor_self, Nat.xor_zero]
  omega
theorem shl_two (a n : Int) (hn : 0 ≤ n) : shl 1 (shl n a) = shl (n + 1) a := by
  unfold shl
  rw [show min (1 : Int).toNat 64 = 1 by decide, Int.pow_one, mulL]
  by_cases h : n < 64
  · rw [show min (n + 1).toNat 64 = min n.toNat 64 + 1 by omega, Int.pow_succ, Int.mul_assoc]
  · rw [show min (n + 1).toNat 64 = 64 by omega, show min n.toNat 64 = 64 by omega, show (2 : Int) ^ 64 = 18446744073709551616 by decide]
    omega
theorem sar_two (a n : Int) (ha : Ok a) (hn : 0 ≤ n) : sar 1 (sar n a) = sar (n + 1) a := by
  have hs : -9223372036854775808 ≤ sg a ∧ sg a ≤ 9223372036854775807 := by unfold Ok at ha; unfold sg; split <;> omega
  have hq : ∀ k : Nat, -9223372036854775808 ≤ sg a / 2 ^ k ∧ sg a / 2 ^ k ≤ 9223372036854775807 := by
    intro k
    have hp := p2 k
    constructor
    · rw [Int.le_ediv_iff_mul_le hp]
      have : (1 : Int) ≤ 2 ^ k := hp
      have h9 := Int.mul_le_mul_of_nonneg_left this (show (0 : Int) ≤ 9223372036854775808 by decide)
      omega
    · have h1 : sg a / 2 ^ k ≤ 9223372036854775807 / 2 ^ k := Int.ediv_le_ediv hp hs.2
      have h2 := Int.ediv_le_self (2 ^ k) (show (0 : Int) ≤ 9223372036854775807 by decide)
      omega
  have hb : ∀ k : Nat, sg (sg a / 2 ^ k % 18446744073709551616) = sg a / 2 ^ k := by
    intro k
    have h5 := hq k
    generalize sg a / 2 ^ k = y at h5 ⊢
    unfold sg
    split <;> omega
  unfold sar
  rw [hb, show min (1 : Int).toNat 64 = 1 by decide, Int.pow_one, Int.ediv_ediv_of_nonneg (Int.le_of_lt (p2 _)), ← Int.pow_succ]
  by_cases h : n < 64
  · rw [show min (n + 1).toNat 64 = min n.toNat 64 + 1 by omega]
  · rw [show min (n + 1).toNat 64 = 64 by omega, show min n.toNat 64 = 64 by omega, show (2 : Int) ^ (64 + 1) = 36893488147419103232 by decide, show (2 : Int) ^ 64 = 18446744073709551616 by decide]
    omega
theorem sext_two (a n : Int) (ha : Ok a) (hn : 0 ≤ n) : sext n (sext n a) = sext n a := by
  unfold sext
  by_cases h : 7 ≤ n
  · rw [if_pos h, if_pos h]
  · simp only [if_neg h]
    have hc : n = 0 ∨ n = 1 ∨ n = 2 ∨ n = 3 ∨ n = 4 ∨ n = 5 ∨ n = 6 := by omega
    unfold sg
    rcases hc with rfl | rfl | rfl | rfl | rfl | rfl | rfl
    · rw [show (2 : Int) ^ (56 - 8 * (0 : Int)).toNat = 72057594037927936 by decide]; split <;> split <;> omega
    · rw [show (2 : Int) ^ (56 - 8 * (1 : Int)).toNat = 281474976710656 by decide]; split <;> split <;> omega
    · rw [show (2 : Int) ^ (56 - 8 * (2 : Int)).toNat = 1099511627776 by decide]; split <;> split <;> omega
    · rw [show (2 : Int) ^ (56 - 8 * (3 : Int)).toNat = 4294967296 by decide]; split <;> split <;> omega
    · rw [show (2 : Int) ^ (56 - 8 * (4 : Int)).toNat = 16777216 by decide]; split <;> split <;> omega
    · rw [show (2 : Int) ^ (56 - 8 * (5 : Int)).toNat = 65536 by decide]; split <;> split <;> omega
    · rw [show (2 : Int) ^ (56 - 8 * (6 : Int)).toNat = 256 by decide]; split <;> split <;> omega
theorem sthree (a b : Int) (ha : Ok a) (hb : Ok b) : slt a b + sgt a b + eq a b = 1 := by
  have hinj : sg a = sg b → a = b := by unfold Ok at *; unfold sg; split <;> split <;> omega
  unfold slt sgt eq b2
  rcases Int.lt_trichotomy (sg a) (sg b) with h | h | h
  · have h1 : ¬ sg b < sg a := by omega
    have h2 : ¬ a = b := by intro e; subst e; omega
    simp [h, h1, h2]
  · have := hinj h; subst this; simp
  · have h1 : ¬ sg a < sg b := by omega
    have h2 : ¬ a = b := by intro e; subst e; omega
    simp [h, h1, h2]
end U
end Go.Proofs.Ytebfecnpkifgeaa
