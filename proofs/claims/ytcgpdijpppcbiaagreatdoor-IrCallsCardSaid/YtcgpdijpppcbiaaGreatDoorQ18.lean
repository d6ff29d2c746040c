/- Merged of VWb VWc VWdd. Own work. -/
import Derived.Test.YtcgpdijpppcbiaaGreatDoorQ17
import Derived.Laws.Externs
namespace Go.Proofs.YtcgpdijpppcbiaaGreatDoor
open Go.RowKit
set_option linter.unusedVariables false
namespace W1
theorem xor_top (a : Int) (h0 : 0 ≤ a) (h1 : a ≤ 18446744073709551615) : Go.bits .xor .u64 a 9223372036854775808 = U.sg a + 9223372036854775808 := by
  rw [u64_xor a 9223372036854775808 h0 (by omega) (by omega) (by omega)]
  have h := Bt.xor_top a.toNat (by omega)
  simp at h ⊢
  rw [h]
  unfold U.sg
  split <;> omega
set_option maxHeartbeats 400000 in
theorem ref_add (a b c : Int) (w : World) (ha : U.Ok a) (hb : U.Ok b) :
    Calls Tryz.prog 6 #[.int .i64 1, .int .u64 a, .int .u64 b, .int .u64 c] w fun e w' => e = .returned (.tuple #[.int .u64 (U.add a b), .int .i64 0]) ∧ w = w' := by
  obtain ⟨a0, a1⟩ := ha
  obtain ⟨b0, b1⟩ := hb
  go_enter Tryz.func6, Tryz.ntmps6
  go_wp2
  go_ret2
  exact ⟨ret_ok (by unfold U.add; rw [IntKind.wrap_u64]), rfl⟩
set_option maxHeartbeats 400000 in
theorem ref_sub (a b c : Int) (w : World) (ha : U.Ok a) (hb : U.Ok b) :
    Calls Tryz.prog 6 #[.int .i64 2, .int .u64 a, .int .u64 b, .int .u64 c] w fun e w' => e = .returned (.tuple #[.int .u64 (U.sub a b), .int .i64 0]) ∧ w = w' := by
  obtain ⟨a0, a1⟩ := ha
  obtain ⟨b0, b1⟩ := hb
  go_enter Tryz.func6, Tryz.ntmps6
  go_wp2
  go_ret2
  exact ⟨ret_ok (by unfold U.sub; rw [IntKind.wrap_u64]), rfl⟩
set_option maxHeartbeats 400000 in
theorem ref_lt (a b c : Int) (w : World) (ha : U.Ok a) (hb : U.Ok b) :
    Calls Tryz.prog 6 #[.int .i64 16, .int .u64 a, .int .u64 b, .int .u64 c] w fun e w' => e = .returned (.tuple #[.int .u64 (U.lt a b), .int .i64 0]) ∧ w = w' := by
  obtain ⟨a0, a1⟩ := ha
  obtain ⟨b0, b1⟩ := hb
  by_cases h : a < b
  · have hd : decide (a < b) = true := by simpa using h
    go_enter Tryz.func6, Tryz.ntmps6
    go_wp2
    go_ret2
    exact ⟨ret_ok (by simp [U.lt, U.b2, h]), rfl⟩
  · have hd : decide (a < b) = false := by simpa using h
    go_enter Tryz.func6, Tryz.ntmps6
    go_wp2
    go_ret2
    exact ⟨ret_ok (by simp [U.lt, U.b2, h]), rfl⟩
set_option maxHeartbeats 400000 in
theorem ref_gt (a b c : Int) (w : World) (ha : U.Ok a) (hb : U.Ok b) :
    Calls Tryz.prog 6 #[.int .i64 17, .int .u64 a, .int .u64 b, .int .u64 c] w fun e w' => e = .returned (.tuple #[.int .u64 (U.gt a b), .int .i64 0]) ∧ w = w' := by
  obtain ⟨a0, a1⟩ := ha
  obtain ⟨b0, b1⟩ := hb
  by_cases h : b < a
  · have hd : decide (b < a) = true := by simpa using h
    go_enter Tryz.func6, Tryz.ntmps6
    go_wp2
    go_ret2
    exact ⟨ret_ok (by simp [U.gt, U.b2, h]), rfl⟩
  · have hd : decide (b < a) = false := by simpa using h
    go_enter Tryz.func6, Tryz.ntmps6
    go_wp2
    go_ret2
    exact ⟨ret_ok (by simp [U.gt, U.b2, h]), rfl⟩
set_option maxHeartbeats 400000 in
theorem ref_slt (a b c : Int) (w : World) (ha : U.Ok a) (hb : U.Ok b) :
    Calls Tryz.prog 6 #[.int .i64 18, .int .u64 a, .int .u64 b, .int .u64 c] w fun e w' => e = .returned (.tuple #[.int .u64 (U.slt a b), .int .i64 0]) ∧ w = w' := by
  obtain ⟨a0, a1⟩ := ha
  obtain ⟨b0, b1⟩ := hb
  have x1 := xor_top a a0 a1
  have x2 := xor_top b b0 b1
  have e1 := U.wrap64_sg a ⟨a0, a1⟩
  have e2 := U.wrap64_sg b ⟨b0, b1⟩
  by_cases h : U.sg a < U.sg b
  · have hd : decide (U.sg a < U.sg b) = true := by simpa using h
    go_enter Tryz.func6, Tryz.ntmps6
    go_wp2
    go_ret2
    exact ⟨ret_ok (by simp [U.slt, U.b2, h]), rfl⟩
  · have hd : decide (U.sg a < U.sg b) = false := by simpa using h
    go_enter Tryz.func6, Tryz.ntmps6
    go_wp2
    go_ret2
    exact ⟨ret_ok (by simp [U.slt, U.b2, h]), rfl⟩
set_option maxHeartbeats 400000 in
theorem ref_sgt (a b c : Int) (w : World) (ha : U.Ok a) (hb : U.Ok b) :
    Calls Tryz.prog 6 #[.int .i64 19, .int .u64 a, .int .u64 b, .int .u64 c] w fun e w' => e = .returned (.tuple #[.int .u64 (U.sgt a b), .int .i64 0]) ∧ w = w' := by
  obtain ⟨a0, a1⟩ := ha
  obtain ⟨b0, b1⟩ := hb
  have x1 := xor_top a a0 a1
  have x2 := xor_top b b0 b1
  have e1 := U.wrap64_sg a ⟨a0, a1⟩
  have e2 := U.wrap64_sg b ⟨b0, b1⟩
  by_cases h : U.sg b < U.sg a
  · have hd : decide (U.sg b < U.sg a) = true := by simpa using h
    go_enter Tryz.func6, Tryz.ntmps6
    go_wp2
    go_ret2
    exact ⟨ret_ok (by simp [U.sgt, U.b2, h]), rfl⟩
  · have hd : decide (U.sg b < U.sg a) = false := by simpa using h
    go_enter Tryz.func6, Tryz.ntmps6
    go_wp2
    go_ret2
    exact ⟨ret_ok (by simp [U.sgt, U.b2, h]), rfl⟩
set_option maxHeartbeats 400000 in
theorem ref_eq (a b c : Int) (w : World) (ha : U.Ok a) (hb : U.Ok b) :
    Calls Tryz.prog 6 #[.int .i64 20, .int .u64 a, .int .u64 b, .int .u64 c] w fun e w' => e = .returned (.tuple #[.int .u64 (U.eq a b), .int .i64 0]) ∧ w = w' := by
  obtain ⟨a0, a1⟩ := ha
  obtain ⟨b0, b1⟩ := hb
  by_cases h : a = b
  · have hd : (a == b) = true := by simpa using h
    go_enter Tryz.func6, Tryz.ntmps6
    go_wp2
    go_ret2
    exact ⟨ret_ok (by simp [U.eq, U.b2, h]), rfl⟩
  · have hd : (a == b) = false := by simpa using h
    go_enter Tryz.func6, Tryz.ntmps6
    go_wp2
    go_ret2
    exact ⟨ret_ok (by simp [U.eq, U.b2, h]), rfl⟩
set_option maxHeartbeats 400000 in
theorem ref_isz (a b c : Int) (w : World) (ha : U.Ok a) (hb : U.Ok b) :
    Calls Tryz.prog 6 #[.int .i64 21, .int .u64 a, .int .u64 b, .int .u64 c] w fun e w' => e = .returned (.tuple #[.int .u64 (U.isz a), .int .i64 0]) ∧ w = w' := by
  obtain ⟨a0, a1⟩ := ha
  obtain ⟨b0, b1⟩ := hb
  by_cases h : a = 0
  · have hd : (a == 0) = true := by simpa using h
    go_enter Tryz.func6, Tryz.ntmps6
    go_wp2
    go_ret2
    exact ⟨ret_ok (by simp [U.isz, U.b2, h]), rfl⟩
  · have hd : (a == 0) = false := by simpa using h
    go_enter Tryz.func6, Tryz.ntmps6
    go_wp2
    go_ret2
    exact ⟨ret_ok (by simp [U.isz, U.b2, h]), rfl⟩
set_option maxHeartbeats 400000 in
theorem ref_and (a b c : Int) (w : World) (ha : U.Ok a) (hb : U.Ok b) :
    Calls Tryz.prog 6 #[.int .i64 22, .int .u64 a, .int .u64 b, .int .u64 c] w fun e w' => e = .returned (.tuple #[.int .u64 (U.and a b), .int .i64 0]) ∧ w = w' := by
  obtain ⟨a0, a1⟩ := ha
  obtain ⟨b0, b1⟩ := hb
  go_enter Tryz.func6, Tryz.ntmps6
  go_wp2
  go_ret2
  exact ⟨ret_ok (by unfold U.and; first | rfl | exact u64_and a b a0 (by omega) b0 (by omega)), rfl⟩
set_option maxHeartbeats 400000 in
theorem ref_or (a b c : Int) (w : World) (ha : U.Ok a) (hb : U.Ok b) :
    Calls Tryz.prog 6 #[.int .i64 23, .int .u64 a, .int .u64 b, .int .u64 c] w fun e w' => e = .returned (.tuple #[.int .u64 (U.or a b), .int .i64 0]) ∧ w = w' := by
  obtain ⟨a0, a1⟩ := ha
  obtain ⟨b0, b1⟩ := hb
  go_enter Tryz.func6, Tryz.ntmps6
  go_wp2
  go_ret2
  exact ⟨ret_ok (by unfold U.or; first | rfl | exact u64_or a b a0 (by omega) b0 (by omega)), rfl⟩
set_option maxHeartbeats 400000 in
theorem ref_xor (a b c : Int) (w : World) (ha : U.Ok a) (hb : U.Ok b) :
    Calls Tryz.prog 6 #[.int .i64 24, .int .u64 a, .int .u64 b, .int .u64 c] w fun e w' => e = .returned (.tuple #[.int .u64 (U.xor a b), .int .i64 0]) ∧ w = w' := by
  obtain ⟨a0, a1⟩ := ha
  obtain ⟨b0, b1⟩ := hb
  go_enter Tryz.func6, Tryz.ntmps6
  go_wp2
  go_ret2
  exact ⟨ret_ok (by unfold U.xor; first | rfl | exact u64_xor a b a0 (by omega) b0 (by omega)), rfl⟩
set_option maxHeartbeats 400000 in
theorem ref_not (a b c : Int) (w : World) (ha : U.Ok a) (hb : U.Ok b) :
    Calls Tryz.prog 6 #[.int .i64 25, .int .u64 a, .int .u64 b, .int .u64 c] w fun e w' => e = .returned (.tuple #[.int .u64 (U.not a), .int .i64 0]) ∧ w = w' := by
  obtain ⟨a0, a1⟩ := ha
  obtain ⟨b0, b1⟩ := hb
  go_enter Tryz.func6, Tryz.ntmps6
  go_wp2
  go_ret2
  exact ⟨ret_ok (by unfold U.not; rw [u64_xor a 18446744073709551615 a0 (by omega) (by omega) (by omega)]; have h := Bt.xor_ones a.toNat (by omega); simp at h ⊢; omega), rfl⟩
end W1
end Go.Proofs.YtcgpdijpppcbiaaGreatDoor
namespace Go.Proofs.YtcgpdijpppcbiaaGreatDoor
open Go.RowKit
set_option linter.unusedVariables false
namespace W1
/-! ## powers -/
/-- The power's running value: all bits of b from k on are done. -/
def PS (a b : Nat) (k : Nat) (p : Value) : Prop := p = .int .u64 ((a ^ (b / 2 ^ k) % 18446744073709551616 : Nat) : Int)
set_option maxHeartbeats 1000000 in
theorem ref_exp (a b : Nat) (c : Int) (w : World) (ha : a < 18446744073709551616) (hb : b < 18446744073709551616) :
    Calls Tryz.prog 6 #[.int .i64 10, .int .u64 a, .int .u64 b, .int .u64 c] w fun e w' => e = .returned (.tuple #[.int .u64 (((a ^ b % 18446744073709551616 : Nat)) : Int), .int .i64 0]) ∧ w = w' := by
  have hst : PS a b 64 (.int .u64 1) := by
    have : b / 2 ^ 64 = 0 := Nat.div_eq_of_lt (by omega)
    unfold PS; rw [this]; rfl
  have HST := Lib.hid hst
  have HAB := Lib.hid (And.intro ha hb)
  have haI : (a : Int) ≤ 18446744073709551615 := by omega
  have hbI : (b : Int) ≤ 18446744073709551615 := by omega
  obtain ⟨R, hR⟩ : ∃ R, a ^ b % 18446744073709551616 = R := ⟨_, rfl⟩
  rw [hR]
  have HRR := Lib.hid hR
  clear hst ha hb hR
  go_enter Tryz.func6, Tryz.ntmps6
  go_wp2
  go_loop [16, 17] (fun p i => ∃ (z : Int) (k : Nat), Hid (z = (k : Int) - 1 ∧ PS a b k p) ∧ -1 ≤ z ∧ z ≤ 63 ∧ i = .int .i64 z) (fun _ i => (intOf i + 1).toNat)
  case atStart => exact ⟨63, 64, Lib.hid ⟨rfl, HST.out⟩, by decide, by decide, rfl⟩
  case round =>
    obtain ⟨z, k, HR, hz1, hz2, rfl⟩ := hrel
    obtain ⟨hzk, hp⟩ := HR.out
    subst hp
    have HZ := Lib.hid hzk
    clear HR hzk
    by_cases hz : 0 ≤ z
    · obtain ⟨j, rfl⟩ : ∃ j : Nat, z = j := ⟨z.toNat, by omega⟩
      have hk : k = j + 1 := by have := HZ.out; omega
      have htp := Dv.top_step b j
      rw [← hk] at htp
      have hjn : j ≤ 63 := by omega
      have hbj : b / 2 ^ j < 18446744073709551616 := Nat.lt_of_le_of_lt (Nat.div_le_self _ _) HAB.out.2
      have hd1 : (b : Int) / 2 ^ j = ((b / 2 ^ j : Nat) : Int) := by rw [Int.natCast_ediv, Int.natCast_pow]; rfl
      obtain ⟨β, hβ⟩ : ∃ β : Nat, b / 2 ^ j % 2 = β := ⟨_, rfl⟩
      rw [hβ] at htp
      have a1 := and_one_u64 (((b / 2 ^ j : Nat) : Int)) (Int.natCast_nonneg _) (nat_le_u64 hbj)
      have hβI : ((b / 2 ^ j : Nat) : Int) % 2 = (β : Int) := by rw [← hβ]; rfl
      rw [hβI, ← hd1] at a1
      have hβ2 : β = 0 ∨ β = 1 := by omega
      obtain ⟨P, hP⟩ : ∃ P, a ^ (b / 2 ^ k) % 18446744073709551616 = P := ⟨_, rfl⟩
      have hPb : P < 18446744073709551616 := by rw [← hP]; exact Nat.mod_lt _ (by decide)
      have hsq := Dv.pow_sq a (b / 2 ^ k) 18446744073709551616
      rw [hP] at hsq
      obtain ⟨P2, hP2⟩ : ∃ P2, P * P % 18446744073709551616 = P2 := ⟨_, rfl⟩
      rw [hP2] at hsq
      have hPI2 : IntKind.u64.wrap ((P : Int) * (P : Int)) = (P2 : Int) := by rw [← Int.natCast_mul, IntKind.wrap_u64, ← hP2]; rfl
      have hP2b : P2 < 18446744073709551616 := by rw [← hP2]; exact Nat.mod_lt _ (by decide)
      have hpo := Dv.pow_one a (2 * (b / 2 ^ k)) 18446744073709551616
      rw [← hsq] at hpo
      obtain ⟨P3, hP3⟩ : ∃ P3, P2 * a % 18446744073709551616 = P3 := ⟨_, rfl⟩
      rw [hP3] at hpo
      have hPI3 : IntKind.u64.wrap ((P2 : Int) * (a : Int)) = (P3 : Int) := by rw [← Int.natCast_mul, IntKind.wrap_u64, ← hP3]; rfl
      rw [hP]
      have hP2I : (P2 : Int) ≤ 18446744073709551615 := by omega
      have hPI : (P : Int) ≤ 18446744073709551615 := by omega
      rcases hβ2 with h0 | h0
      · subst h0
        have HE : Hid (PS a b j (.int .u64 (P2 : Int))) := Lib.hid (by unfold PS; rw [htp, Nat.add_zero, ← hsq])
        have hz1 : (((0 : Nat) : Int) == 1) = false := by decide
        clear hk htp hbj hβ hβI hd1 hP hPb hsq hP2 hP2b hpo hP3 hPI3
        go_wp2
        go_round
        case rel => exact ⟨(j : Int) - 1, j, Lib.hid ⟨rfl, HE.out⟩, by omega, by omega, rfl⟩
        case measure => first | (simp [intOf]; done) | (simp [intOf]; omega)
      · subst h0
        have HE : Hid (PS a b j (.int .u64 (P3 : Int))) := Lib.hid (by unfold PS; rw [htp, ← hpo])
        have hz1 : (((1 : Nat) : Int) == 1) = true := by decide
        clear hk htp hbj hβ hβI hd1 hP hPb hsq hP2 hP2b hpo hP3
        go_wp2
        go_round
        case rel => exact ⟨(j : Int) - 1, j, Lib.hid ⟨rfl, HE.out⟩, by omega, by omega, rfl⟩
        case measure => first | (simp [intOf]; done) | (simp [intOf]; omega)
    · have hk0 : k = 0 := by have := HZ.out; omega
      subst hk0
      rw [Nat.pow_zero, Nat.div_one, HRR.out]
      go_wp2
      go_ret2
      exact ⟨rfl, rfl⟩
/-! ## quotients -/
theorem size_mag (a : Nat) (w : World) (ha : a < 18446744073709551616) :
    Calls Tryz.prog 35 #[.int .u64 a] w fun e w' => e = .returned (.int .u64 (Dv.mag a)) ∧ w = w' := by
  have haI : (a : Int) ≤ 18446744073709551615 := by omega
  by_cases h : (9223372036854775808 : Int) ≤ (a : Int)
  · have e : IntKind.u64.wrap (0 - (a : Int)) = (Dv.mag a : Int) := by rw [IntKind.wrap_u64]; unfold Dv.mag; rw [if_neg (by omega)]; omega
    have e2 : IntKind.u64.wrap (-(a : Int)) = (Dv.mag a : Int) := by rw [← e, Int.zero_sub]
    clear ha
    go_enter Tryz.func35, Tryz.ntmps35
    go_wp2
    go_ret
    exact ⟨rfl, rfl⟩
  · have e : Dv.mag a = a := by unfold Dv.mag; rw [if_pos (by omega)]
    have hd : decide ((9223372036854775808 : Int) ≤ (a : Int)) = false := by rw [decide_eq_false_iff_not]; exact h
    rw [e]
    clear ha h e
    go_enter Tryz.func35, Tryz.ntmps35
    go_wp2
    go_ret
    exact ⟨rfl, rfl⟩
theorem neg_any (a : Nat) (w : World) (ha : a < 18446744073709551616) :
    Calls Tryz.prog 36 #[.int .u64 a] w fun e w' => e = .returned (.bool (decide ((9223372036854775808 : Int) ≤ (a : Int)))) ∧ w = w' := by
  have haI : (a : Int) ≤ 18446744073709551615 := by omega
  clear ha
  go_enter Tryz.func36, Tryz.ntmps36
  go_wp2
  go_ret
  exact ⟨rfl, rfl⟩
end W1
end Go.Proofs.YtcgpdijpppcbiaaGreatDoor
namespace Go.Proofs.YtcgpdijpppcbiaaGreatDoor
open Go.RowKit
set_option linter.unusedVariables false
namespace W1
theorem rest0 (a b : Nat) (w : World) (ha : a < 18446744073709551616) (hb0 : 0 < b) (hb : b < 18446744073709551616) :
    Calls Tryz.prog 21 #[.int .u64 0, .int .u64 a, .int .u64 b] w fun e w' => e = .returned (.tuple #[.int .u64 ((a / b : Nat) : Int), .int .u64 ((a % b : Nat) : Int)]) ∧ w = w' := by
  have h := refRest_any 0 a b w (by decide) ha hb0 hb
  rw [Nat.zero_mul, Nat.zero_add, Nat.mod_eq_of_lt (Nat.lt_of_le_of_lt (Nat.div_le_self a b) ha)] at h
  exact h
theorem divided_zero (op a : Nat) (w : World) : Calls Tryz.prog 19 #[.int .i64 op, .int .u64 a, .int .u64 0] w fun e w' => e = .returned (.int .u64 0) ∧ w = w' := by
  go_enter Tryz.func19, Tryz.ntmps19
  go_wp2
  go_ret
  exact ⟨rfl, rfl⟩
theorem divided_4 (a b : Nat) (w : World) (ha : a < 18446744073709551616) (hb0 : 0 < b) (hb : b < 18446744073709551616) :
    Calls Tryz.prog 19 #[.int .i64 4, .int .u64 a, .int .u64 b] w fun e w' => e = .returned (.int .u64 ((a / b : Nat) : Int)) ∧ w = w' := by
  have HR := Lib.hid (rest0 a b w ha hb0 hb)
  have hz : ((b : Int) == 0) = false := by simp; omega
  obtain ⟨Q, hQ⟩ : ∃ Q, a / b = Q := ⟨_, rfl⟩
  obtain ⟨R, hR⟩ : ∃ Q, a % b = Q := ⟨_, rfl⟩
  rw [hQ, hR] at HR
  rw [hQ]
  clear ha hb hb0 hQ hR
  go_enter Tryz.func19, Tryz.ntmps19
  go_wp2_with (go_at_call 21; (with_reducible refine HR.out.mono ?_); rintro e _ ⟨rfl, rfl⟩)
  go_ret
  exact ⟨rfl, rfl⟩
theorem divided_6 (a b : Nat) (w : World) (ha : a < 18446744073709551616) (hb0 : 0 < b) (hb : b < 18446744073709551616) :
    Calls Tryz.prog 19 #[.int .i64 6, .int .u64 a, .int .u64 b] w fun e w' => e = .returned (.int .u64 ((a % b : Nat) : Int)) ∧ w = w' := by
  have HR := Lib.hid (rest0 a b w ha hb0 hb)
  have hz : ((b : Int) == 0) = false := by simp; omega
  obtain ⟨Q, hQ⟩ : ∃ Q, a / b = Q := ⟨_, rfl⟩
  obtain ⟨R, hR⟩ : ∃ Q, a % b = Q := ⟨_, rfl⟩
  rw [hQ, hR] at HR
  rw [hR]
  clear ha hb hb0 hQ hR
  go_enter Tryz.func19, Tryz.ntmps19
  go_wp2_with (go_at_call 21; (with_reducible refine HR.out.mono ?_); rintro e _ ⟨rfl, rfl⟩)
  go_ret
  exact ⟨rfl, rfl⟩
theorem sg_sgn (a : Nat) : U.sg (a : Int) = Dv.sgn a := by
  unfold U.sg Dv.sgn
  by_cases h : a < 9223372036854775808
  · rw [if_pos h, if_pos (by omega)]
  · rw [if_neg h, if_neg (by omega)]
theorem mag_pos {b : Nat} (h : 0 < b) (hb : b < 18446744073709551616) : 0 < Dv.mag b ∧ Dv.mag b < 18446744073709551616 := by unfold Dv.mag; split <;> omega
set_option maxHeartbeats 1000000 in
theorem divided_5 (a b : Nat) (w : World) (ha : a < 18446744073709551616) (hb0 : 0 < b) (hb : b < 18446744073709551616) :
    Calls Tryz.prog 19 #[.int .i64 5, .int .u64 a, .int .u64 b] w fun e w' => e = .returned (.int .u64 (U.sdiv a b)) ∧ w = w' := by
  have hma := mag_pos hb0 hb
  have hmA : Dv.mag a < 18446744073709551616 := by unfold Dv.mag; split <;> omega
  have HR := Lib.hid (rest0 (Dv.mag a) (Dv.mag b) w hmA hma.1 hma.2)
  have HA := Lib.hid (size_mag a w ha)
  have HB := Lib.hid (size_mag b w hb)
  have NA := Lib.hid (neg_any a w ha)
  have NB := Lib.hid (neg_any b w hb)
  have hz : ((b : Int) == 0) = false := by simp; omega
  have hv : U.sdiv a b = if (9223372036854775808 ≤ a) = (9223372036854775808 ≤ b) then ((Dv.mag a / Dv.mag b : Nat) : Int) else (0 - ((Dv.mag a / Dv.mag b : Nat) : Int)) % 18446744073709551616 := by
    unfold U.sdiv; rw [if_neg (by omega), sg_sgn, sg_sgn, Dv.sdiv_mag a b ha hb]
  have hql : Dv.mag a / Dv.mag b ≤ Dv.mag a := Nat.div_le_self _ _
  have hmA2 : Dv.mag a ≤ 9223372036854775808 := by unfold Dv.mag; split <;> omega
  obtain ⟨Q, hQ⟩ : ∃ Q, Dv.mag a / Dv.mag b = Q := ⟨_, rfl⟩
  obtain ⟨R, hR⟩ : ∃ Q, Dv.mag a % Dv.mag b = Q := ⟨_, rfl⟩
  rw [hQ, hR] at HR
  rw [hQ] at hv hql
  have hQI : (Q : Int) ≤ 18446744073709551615 := by omega
  obtain ⟨M, hM⟩ : ∃ M : Nat, (0 - (Q : Int)) % 18446744073709551616 = (M : Int) := ⟨((0 - (Q : Int)) % 18446744073709551616).toNat, by omega⟩
  have hMw : IntKind.u64.wrap (-(Q : Int)) = (M : Int) := by rw [IntKind.wrap_u64, ← hM, Int.zero_sub]
  have hMw2 : IntKind.u64.wrap (0 - (Q : Int)) = (M : Int) := by rw [IntKind.wrap_u64, ← hM]
  rw [hM] at hv
  obtain ⟨V, hV⟩ : ∃ V, U.sdiv a b = V := ⟨_, rfl⟩
  rw [hV] at hv ⊢
  have HV := Lib.hid hv
  obtain ⟨ma, hma'⟩ : ∃ m, Dv.mag a = m := ⟨_, rfl⟩
  obtain ⟨mb, hmb'⟩ : ∃ m, Dv.mag b = m := ⟨_, rfl⟩
  rw [hma'] at HA HR
  rw [hmb'] at HB HR
  have hcase : (decide ((9223372036854775808 : Int) ≤ (a : Int)) = true ∧ decide ((9223372036854775808 : Int) ≤ (b : Int)) = true ∧ V = (Q : Int)) ∨ (decide ((9223372036854775808 : Int) ≤ (a : Int)) = true ∧ decide ((9223372036854775808 : Int) ≤ (b : Int)) = false ∧ V = (M : Int)) ∨ (decide ((9223372036854775808 : Int) ≤ (a : Int)) = false ∧ decide ((9223372036854775808 : Int) ≤ (b : Int)) = true ∧ V = (M : Int)) ∨ (decide ((9223372036854775808 : Int) ≤ (a : Int)) = false ∧ decide ((9223372036854775808 : Int) ≤ (b : Int)) = false ∧ V = (Q : Int)) := by
    by_cases h1 : (9223372036854775808 : Int) ≤ (a : Int)
    · by_cases h2 : (9223372036854775808 : Int) ≤ (b : Int)
      · exact .inl ⟨by simpa using h1, by simpa using h2, by rw [hv, if_pos (by simp; omega)]⟩
      · exact .inr (.inl ⟨by simpa using h1, by simpa using h2, by rw [hv, if_neg (by simp; omega)]⟩)
    · by_cases h2 : (9223372036854775808 : Int) ≤ (b : Int)
      · exact .inr (.inr (.inl ⟨by simpa using h1, by simpa using h2, by rw [hv, if_neg (by simp; omega)]⟩))
      · exact .inr (.inr (.inr ⟨by simpa using h1, by simpa using h2, by rw [hv, if_pos (by simp; omega)]⟩))
  rcases hcase with hd | hd | hd | hd
  all_goals
    obtain ⟨d1, d2, e3⟩ := hd
    rw [d1] at NA
    rw [d2] at NB
    rw [e3]
    clear hv HV hV hma hmA hma' hmb' hmA2 hql hQ hR hM d1 d2 e3 ha hb0 hb
    go_enter Tryz.func19, Tryz.ntmps19
    go_wp2_with (first
      | (go_at_call 21; (with_reducible refine HR.out.mono ?_); rintro e _ ⟨rfl, rfl⟩)
      | (go_at_call 35; (with_reducible refine HA.out.mono ?_); rintro e _ ⟨rfl, rfl⟩)
      | (go_at_call 35; (with_reducible refine HB.out.mono ?_); rintro e _ ⟨rfl, rfl⟩)
      | (go_at_call 36; (with_reducible refine NA.out.mono ?_); rintro e _ ⟨rfl, rfl⟩)
      | (go_at_call 36; (with_reducible refine NB.out.mono ?_); rintro e _ ⟨rfl, rfl⟩))
    go_ret
    exact ⟨rfl, rfl⟩
set_option maxHeartbeats 1000000 in
theorem divided_7 (a b : Nat) (w : World) (ha : a < 18446744073709551616) (hb0 : 0 < b) (hb : b < 18446744073709551616) :
    Calls Tryz.prog 19 #[.int .i64 7, .int .u64 a, .int .u64 b] w fun e w' => e = .returned (.int .u64 (U.smod a b)) ∧ w = w' := by
  have hma := mag_pos hb0 hb
  have hmA : Dv.mag a < 18446744073709551616 := by unfold Dv.mag; split <;> omega
  have HR := Lib.hid (rest0 (Dv.mag a) (Dv.mag b) w hmA hma.1 hma.2)
  have HA := Lib.hid (size_mag a w ha)
  have HB := Lib.hid (size_mag b w hb)
  have NA := Lib.hid (neg_any a w ha)
  have hz : ((b : Int) == 0) = false := by simp; omega
  have hv : U.smod a b = if 9223372036854775808 ≤ a then (0 - ((Dv.mag a % Dv.mag b : Nat) : Int)) % 18446744073709551616 else ((Dv.mag a % Dv.mag b : Nat) : Int) := by
    unfold U.smod; rw [if_neg (by omega), sg_sgn, sg_sgn, Dv.smod_mag a b ha hb]
  have hql : Dv.mag a % Dv.mag b ≤ Dv.mag a := Nat.mod_le _ _
  have hmA2 : Dv.mag a ≤ 9223372036854775808 := by unfold Dv.mag; split <;> omega
  obtain ⟨Q, hQ⟩ : ∃ Q, Dv.mag a / Dv.mag b = Q := ⟨_, rfl⟩
  obtain ⟨R, hR⟩ : ∃ Q, Dv.mag a % Dv.mag b = Q := ⟨_, rfl⟩
  rw [hQ, hR] at HR
  rw [hR] at hv hql
  have hQI : (R : Int) ≤ 18446744073709551615 := by omega
  obtain ⟨M, hM⟩ : ∃ M : Nat, (0 - (R : Int)) % 18446744073709551616 = (M : Int) := ⟨((0 - (R : Int)) % 18446744073709551616).toNat, by omega⟩
  have hMw : IntKind.u64.wrap (-(R : Int)) = (M : Int) := by rw [IntKind.wrap_u64, ← hM, Int.zero_sub]
  have hMw2 : IntKind.u64.wrap (0 - (R : Int)) = (M : Int) := by rw [IntKind.wrap_u64, ← hM]
  rw [hM] at hv
  obtain ⟨V, hV⟩ : ∃ V, U.smod a b = V := ⟨_, rfl⟩
  rw [hV] at hv ⊢
  obtain ⟨ma, hma'⟩ : ∃ m, Dv.mag a = m := ⟨_, rfl⟩
  obtain ⟨mb, hmb'⟩ : ∃ m, Dv.mag b = m := ⟨_, rfl⟩
  rw [hma'] at HA HR
  rw [hmb'] at HB HR
  by_cases h1 : (9223372036854775808 : Int) ≤ (a : Int)
  case' pos => have hd : decide ((9223372036854775808 : Int) ≤ (a : Int)) = true ∧ V = (M : Int) := ⟨by simpa using h1, by rw [hv, if_pos (by omega)]⟩
  case' neg => have hd : decide ((9223372036854775808 : Int) ≤ (a : Int)) = false ∧ V = (R : Int) := ⟨by simpa using h1, by rw [hv, if_neg (by omega)]⟩
  all_goals
    obtain ⟨d1, e3⟩ := hd
    rw [d1] at NA
    rw [e3]
    clear h1 hv hV hma hmA hma' hmb' hmA2 hql hQ hR hM d1 e3 ha hb0 hb
    go_enter Tryz.func19, Tryz.ntmps19
    go_wp2_with (first
      | (go_at_call 21; (with_reducible refine HR.out.mono ?_); rintro e _ ⟨rfl, rfl⟩)
      | (go_at_call 35; (with_reducible refine HA.out.mono ?_); rintro e _ ⟨rfl, rfl⟩)
      | (go_at_call 35; (with_reducible refine HB.out.mono ?_); rintro e _ ⟨rfl, rfl⟩)
      | (go_at_call 36; (with_reducible refine NA.out.mono ?_); rintro e _ ⟨rfl, rfl⟩))
    go_ret
    exact ⟨rfl, rfl⟩
end W1
end Go.Proofs.YtcgpdijpppcbiaaGreatDoor
