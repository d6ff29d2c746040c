/-
  mootref01: quotients and rests, signed too; sums and products by a third. Own work.
-/
import Derived.Test.YtebfecnpkifgeaaDoorWc
namespace Go.Proofs.YtebfecnpkifgeaaDoor
open Go.RowKit
set_option linter.unusedVariables false
namespace W1
theorem rest0 (a b : Nat) (w : World) (ha : a < 18446744073709551616) (hb0 : 0 < b) (hb : b < 18446744073709551616) :
    Calls Tryd.prog 26 #[.int .u64 0, .int .u64 a, .int .u64 b] w fun e w' => e = .returned (.tuple #[.int .u64 ((a / b : Nat) : Int), .int .u64 ((a % b : Nat) : Int)]) ∧ w = w' := by
  have h := refRest_any 0 a b w (by decide) ha hb0 hb
  rw [Nat.zero_mul, Nat.zero_add, Nat.mod_eq_of_lt (Nat.lt_of_le_of_lt (Nat.div_le_self a b) ha)] at h
  exact h
/-- What mootref01.divided answers. -/
def dvd (op a b : Nat) : Int :=
  if b = 0 then 0 else if op = 4 then ((a / b : Nat) : Int) else if op = 6 then ((a % b : Nat) : Int) else if op = 5 then U.sdiv a b else U.smod a b
theorem divided_zero (op a : Nat) (w : World) : Calls Tryd.prog 24 #[.int .i64 op, .int .u64 a, .int .u64 0] w fun e w' => e = .returned (.int .u64 0) ∧ w = w' := by
  go_enter Tryd.func24, Tryd.ntmps24
  go_wp2
  go_ret
  exact ⟨rfl, rfl⟩
theorem divided_4 (a b : Nat) (w : World) (ha : a < 18446744073709551616) (hb0 : 0 < b) (hb : b < 18446744073709551616) :
    Calls Tryd.prog 24 #[.int .i64 4, .int .u64 a, .int .u64 b] w fun e w' => e = .returned (.int .u64 ((a / b : Nat) : Int)) ∧ w = w' := by
  have HR := Lib.hid (rest0 a b w ha hb0 hb)
  have hz : ((b : Int) == 0) = false := by simp; omega
  obtain ⟨Q, hQ⟩ : ∃ Q, a / b = Q := ⟨_, rfl⟩
  obtain ⟨R, hR⟩ : ∃ Q, a % b = Q := ⟨_, rfl⟩
  rw [hQ, hR] at HR
  rw [hQ]
  clear ha hb hb0 hQ hR
  go_enter Tryd.func24, Tryd.ntmps24
  go_wp2_with (go_at_call 26; (with_reducible refine HR.out.mono ?_); rintro e _ ⟨rfl, rfl⟩)
  go_ret
  exact ⟨rfl, rfl⟩
theorem divided_6 (a b : Nat) (w : World) (ha : a < 18446744073709551616) (hb0 : 0 < b) (hb : b < 18446744073709551616) :
    Calls Tryd.prog 24 #[.int .i64 6, .int .u64 a, .int .u64 b] w fun e w' => e = .returned (.int .u64 ((a % b : Nat) : Int)) ∧ w = w' := by
  have HR := Lib.hid (rest0 a b w ha hb0 hb)
  have hz : ((b : Int) == 0) = false := by simp; omega
  obtain ⟨Q, hQ⟩ : ∃ Q, a / b = Q := ⟨_, rfl⟩
  obtain ⟨R, hR⟩ : ∃ Q, a % b = Q := ⟨_, rfl⟩
  rw [hQ, hR] at HR
  rw [hR]
  clear ha hb hb0 hQ hR
  go_enter Tryd.func24, Tryd.ntmps24
  go_wp2_with (go_at_call 26; (with_reducible refine HR.out.mono ?_); rintro e _ ⟨rfl, rfl⟩)
  go_ret
  exact ⟨rfl, rfl⟩
theorem sg_sgn (a : Nat) : U.sg (a : Int) = Dv.sgn a := by
  unfold U.sg Dv.sgn
  by_cases h : a < 9223372036854775808
  · rw [if_pos h, if_pos (by omega)]
  · rw [if_neg h, if_neg (by omega)]
theorem mag_pos {b : Nat} (h : 0 < b) (hb : b < 18446744073709551616) : 0 < Dv.mag b ∧ Dv.mag b < 18446744073709551616 := by unfold Dv.mag; split <;> omega
set_option maxHeartbeats 1000000 in
theorem divided_5 (a b : Nat) (w : World) (ha : a < 18446744073709551616) (hb0 : 0 < b) (hb : b < 18446744073709551616) :
    Calls Tryd.prog 24 #[.int .i64 5, .int .u64 a, .int .u64 b] w fun e w' => e = .returned (.int .u64 (U.sdiv a b)) ∧ w = w' := by
  have hma := mag_pos hb0 hb
  have hmA : Dv.mag a < 18446744073709551616 := by unfold Dv.mag; split <;> omega
  have HR := Lib.hid (rest0 (Dv.mag a) (Dv.mag b) w hmA hma.1 hma.2)
  have HA := Lib.hid (size_mag a w ha)
  have HB := Lib.hid (size_mag b w hb)
  have NA := Lib.hid (neg_any a w ha)
  have NB := Lib.hid (neg_any b w hb)
  have hz : ((b : Int) == 0) = false := by simp; omega
  have hv : U.sdiv a b = if (9223372036854775808 ≤ a) = (9223372036854775808 ≤ b) then ((Dv.mag a / Dv.mag b : Nat) : Int) else (0 - ((Dv.mag a / Dv.mag b : Nat) : Int)) % 18446744073709551616 := by
    unfold U.sdiv; rw [if_neg (by omega), sg_sgn, sg_sgn, Dv.sdiv_mag a b ha hb]
  have hql : Dv.mag a / Dv.mag b ≤ Dv.mag a := Nat.div_le_self _ _
  have hmA2 : Dv.mag a ≤ 9223372036854775808 := by unfold Dv.mag; split <;> omega
  obtain ⟨Q, hQ⟩ : ∃ Q, Dv.mag a / Dv.mag b = Q := ⟨_, rfl⟩
  obtain ⟨R, hR⟩ : ∃ Q, Dv.mag a % Dv.mag b = Q := ⟨_, rfl⟩
  rw [hQ, hR] at HR
  rw [hQ] at hv hql
  have hQI : (Q : Int) ≤ 18446744073709551615 := by omega
  obtain ⟨M, hM⟩ : ∃ M : Nat, (0 - (Q : Int)) % 18446744073709551616 = (M : Int) := ⟨((0 - (Q : Int)) % 18446744073709551616).toNat, by omega⟩
  have hMw : IntKind.u64.wrap (-(Q : Int)) = (M : Int) := by rw [IntKind.wrap_u64, ← hM, Int.zero_sub]
  have hMw2 : IntKind.u64.wrap (0 - (Q : Int)) = (M : Int) := by rw [IntKind.wrap_u64, ← hM]
  rw [hM] at hv
  obtain ⟨V, hV⟩ : ∃ V, U.sdiv a b = V := ⟨_, rfl⟩
  rw [hV] at hv ⊢
  have HV := Lib.hid hv
  obtain ⟨ma, hma'⟩ : ∃ m, Dv.mag a = m := ⟨_, rfl⟩
  obtain ⟨mb, hmb'⟩ : ∃ m, Dv.mag b = m := ⟨_, rfl⟩
  rw [hma'] at HA HR
  rw [hmb'] at HB HR
  have hcase : (decide ((9223372036854775808 : Int) ≤ (a : Int)) = true ∧ decide ((9223372036854775808 : Int) ≤ (b : Int)) = true ∧ V = (Q : Int)) ∨ (decide ((9223372036854775808 : Int) ≤ (a : Int)) = true ∧ decide ((9223372036854775808 : Int) ≤ (b : Int)) = false ∧ V = (M : Int)) ∨ (decide ((9223372036854775808 : Int) ≤ (a : Int)) = false ∧ decide ((9223372036854775808 : Int) ≤ (b : Int)) = true ∧ V = (M : Int)) ∨ (decide ((9223372036854775808 : Int) ≤ (a : Int)) = false ∧ decide ((9223372036854775808 : Int) ≤ (b : Int)) = false ∧ V = (Q : Int)) := by
    by_cases h1 : (9223372036854775808 : Int) ≤ (a : Int)
    · by_cases h2 : (9223372036854775808 : Int) ≤ (b : Int)
      · exact .inl ⟨by simpa using h1, by simpa using h2, by rw [hv, if_pos (by simp; omega)]⟩
      · exact .inr (.inl ⟨by simpa using h1, by simpa using h2, by rw [hv, if_neg (by simp; omega)]⟩)
    · by_cases h2 : (9223372036854775808 : Int) ≤ (b : Int)
      · exact .inr (.inr (.inl ⟨by simpa using h1, by simpa using h2, by rw [hv, if_neg (by simp; omega)]⟩))
      · exact .inr (.inr (.inr ⟨by simpa using h1, by simpa using h2, by rw [hv, if_pos (by simp; omega)]⟩))
  rcases hcase with hd | hd | hd | hd
  all_goals
    obtain ⟨d1, d2, e3⟩ := hd
    rw [d1] at NA
    rw [d2] at NB
    rw [e3]
    clear hv HV hV hma hmA hma' hmb' hmA2 hql hQ hR hM d1 d2 e3 ha hb0 hb
    go_enter Tryd.func24, Tryd.ntmps24
    go_wp2_with (first
      | (go_at_call 26; (with_reducible refine HR.out.mono ?_); rintro e _ ⟨rfl, rfl⟩)
      | (go_at_call 38; (with_reducible refine HA.out.mono ?_); rintro e _ ⟨rfl, rfl⟩)
      | (go_at_call 38; (with_reducible refine HB.out.mono ?_); rintro e _ ⟨rfl, rfl⟩)
      | (go_at_call 39; (with_reducible refine NA.out.mono ?_); rintro e _ ⟨rfl, rfl⟩)
      | (go_at_call 39; (with_reducible refine NB.out.mono ?_); rintro e _ ⟨rfl, rfl⟩))
    go_ret
    exact ⟨rfl, rfl⟩
set_option maxHeartbeats 1000000 in
theorem divided_7 (a b : Nat) (w : World) (ha : a < 18446744073709551616) (hb0 : 0 < b) (hb : b < 18446744073709551616) :
    Calls Tryd.prog 24 #[.int .i64 7, .int .u64 a, .int .u64 b] w fun e w' => e = .returned (.int .u64 (U.smod a b)) ∧ w = w' := by
  have hma := mag_pos hb0 hb
  have hmA : Dv.mag a < 18446744073709551616 := by unfold Dv.mag; split <;> omega
  have HR := Lib.hid (rest0 (Dv.mag a) (Dv.mag b) w hmA hma.1 hma.2)
  have HA := Lib.hid (size_mag a w ha)
  have HB := Lib.hid (size_mag b w hb)
  have NA := Lib.hid (neg_any a w ha)
  have hz : ((b : Int) == 0) = false := by simp; omega
  have hv : U.smod a b = if 9223372036854775808 ≤ a then (0 - ((Dv.mag a % Dv.mag b : Nat) : Int)) % 18446744073709551616 else ((Dv.mag a % Dv.mag b : Nat) : Int) := by
    unfold U.smod; rw [if_neg (by omega), sg_sgn, sg_sgn, Dv.smod_mag a b ha hb]
  have hql : Dv.mag a % Dv.mag b ≤ Dv.mag a := Nat.mod_le _ _
  have hmA2 : Dv.mag a ≤ 9223372036854775808 := by unfold Dv.mag; split <;> omega
  obtain ⟨Q, hQ⟩ : ∃ Q, Dv.mag a / Dv.mag b = Q := ⟨_, rfl⟩
  obtain ⟨R, hR⟩ : ∃ Q, Dv.mag a % Dv.mag b = Q := ⟨_, rfl⟩
  rw [hQ, hR] at HR
  rw [hR] at hv hql
  have hQI : (R : Int) ≤ 18446744073709551615 := by omega
  obtain ⟨M, hM⟩ : ∃ M : Nat, (0 - (R : Int)) % 18446744073709551616 = (M : Int) := ⟨((0 - (R : Int)) % 18446744073709551616).toNat, by omega⟩
  have hMw : IntKind.u64.wrap (-(R : Int)) = (M : Int) := by rw [IntKind.wrap_u64, ← hM, Int.zero_sub]
  have hMw2 : IntKind.u64.wrap (0 - (R : Int)) = (M : Int) := by rw [IntKind.wrap_u64, ← hM]
  rw [hM] at hv
  obtain ⟨V, hV⟩ : ∃ V, U.smod a b = V := ⟨_, rfl⟩
  rw [hV] at hv ⊢
  obtain ⟨ma, hma'⟩ : ∃ m, Dv.mag a = m := ⟨_, rfl⟩
  obtain ⟨mb, hmb'⟩ : ∃ m, Dv.mag b = m := ⟨_, rfl⟩
  rw [hma'] at HA HR
  rw [hmb'] at HB HR
  by_cases h1 : (9223372036854775808 : Int) ≤ (a : Int)
  case' pos => have hd : decide ((9223372036854775808 : Int) ≤ (a : Int)) = true ∧ V = (M : Int) := ⟨by simpa using h1, by rw [hv, if_pos (by omega)]⟩
  case' neg => have hd : decide ((9223372036854775808 : Int) ≤ (a : Int)) = false ∧ V = (R : Int) := ⟨by simpa using h1, by rw [hv, if_neg (by omega)]⟩
  all_goals
    obtain ⟨d1, e3⟩ := hd
    rw [d1] at NA
    rw [e3]
    clear h1 hv hV hma hmA hma' hmb' hmA2 hql hQ hR hM d1 e3 ha hb0 hb
    go_enter Tryd.func24, Tryd.ntmps24
    go_wp2_with (first
      | (go_at_call 26; (with_reducible refine HR.out.mono ?_); rintro e _ ⟨rfl, rfl⟩)
      | (go_at_call 38; (with_reducible refine HA.out.mono ?_); rintro e _ ⟨rfl, rfl⟩)
      | (go_at_call 38; (with_reducible refine HB.out.mono ?_); rintro e _ ⟨rfl, rfl⟩)
      | (go_at_call 39; (with_reducible refine NA.out.mono ?_); rintro e _ ⟨rfl, rfl⟩))
    go_ret
    exact ⟨rfl, rfl⟩
end W1
end Go.Proofs.YtebfecnpkifgeaaDoor
