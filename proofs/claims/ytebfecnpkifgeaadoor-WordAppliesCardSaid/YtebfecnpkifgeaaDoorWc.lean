/-
  mootref01: powers, quotients, rests. Own work.
-/
import Derived.Test.YtebfecnpkifgeaaDoorWb
import Derived.Laws.Externs
namespace Go.Proofs.YtebfecnpkifgeaaDoor
open Go.RowKit
set_option linter.unusedVariables false
namespace W1
/-! ## powers -/
/-- The power's running value: all bits of b from k on are done. -/
def PS (a b : Nat) (k : Nat) (p : Value) : Prop := p = .int .u64 ((a ^ (b / 2 ^ k) % 18446744073709551616 : Nat) : Int)
set_option maxHeartbeats 1000000 in
theorem ref_exp (a b : Nat) (c : Int) (w : World) (ha : a < 18446744073709551616) (hb : b < 18446744073709551616) :
    Calls Tryd.prog 10 #[.int .i64 10, .int .u64 a, .int .u64 b, .int .u64 c] w fun e w' => e = .returned (.tuple #[.int .u64 (((a ^ b % 18446744073709551616 : Nat)) : Int), .int .i64 0]) ∧ w = w' := by
  have hst : PS a b 64 (.int .u64 1) := by
    have : b / 2 ^ 64 = 0 := Nat.div_eq_of_lt (by omega)
    unfold PS; rw [this]; rfl
  have HST := Lib.hid hst
  have HAB := Lib.hid (And.intro ha hb)
  have haI : (a : Int) ≤ 18446744073709551615 := by omega
  have hbI : (b : Int) ≤ 18446744073709551615 := by omega
  obtain ⟨R, hR⟩ : ∃ R, a ^ b % 18446744073709551616 = R := ⟨_, rfl⟩
  rw [hR]
  have HRR := Lib.hid hR
  clear hst ha hb hR
  go_enter Tryd.func10, Tryd.ntmps10
  go_wp2
  go_loop [16, 17] (fun p i => ∃ (z : Int) (k : Nat), Hid (z = (k : Int) - 1 ∧ PS a b k p) ∧ -1 ≤ z ∧ z ≤ 63 ∧ i = .int .i64 z) (fun _ i => (intOf i + 1).toNat)
  case atStart => exact ⟨63, 64, Lib.hid ⟨rfl, HST.out⟩, by decide, by decide, rfl⟩
  case round =>
    obtain ⟨z, k, HR, hz1, hz2, rfl⟩ := hrel
    obtain ⟨hzk, hp⟩ := HR.out
    subst hp
    have HZ := Lib.hid hzk
    clear HR hzk
    by_cases hz : 0 ≤ z
    · obtain ⟨j, rfl⟩ : ∃ j : Nat, z = j := ⟨z.toNat, by omega⟩
      have hk : k = j + 1 := by have := HZ.out; omega
      have htp := Dv.top_step b j
      rw [← hk] at htp
      have hjn : j ≤ 63 := by omega
      have hbj : b / 2 ^ j < 18446744073709551616 := Nat.lt_of_le_of_lt (Nat.div_le_self _ _) HAB.out.2
      have hd1 : (b : Int) / 2 ^ j = ((b / 2 ^ j : Nat) : Int) := by rw [Int.natCast_ediv, Int.natCast_pow]; rfl
      obtain ⟨β, hβ⟩ : ∃ β : Nat, b / 2 ^ j % 2 = β := ⟨_, rfl⟩
      rw [hβ] at htp
      have a1 := and_one_u64 (((b / 2 ^ j : Nat) : Int)) (Int.natCast_nonneg _) (nat_le_u64 hbj)
      have hβI : ((b / 2 ^ j : Nat) : Int) % 2 = (β : Int) := by rw [← hβ]; rfl
      rw [hβI, ← hd1] at a1
      have hβ2 : β = 0 ∨ β = 1 := by omega
      obtain ⟨P, hP⟩ : ∃ P, a ^ (b / 2 ^ k) % 18446744073709551616 = P := ⟨_, rfl⟩
      have hPb : P < 18446744073709551616 := by rw [← hP]; exact Nat.mod_lt _ (by decide)
      have hsq := Dv.pow_sq a (b / 2 ^ k) 18446744073709551616
      rw [hP] at hsq
      obtain ⟨P2, hP2⟩ : ∃ P2, P * P % 18446744073709551616 = P2 := ⟨_, rfl⟩
      rw [hP2] at hsq
      have hPI2 : IntKind.u64.wrap ((P : Int) * (P : Int)) = (P2 : Int) := by rw [← Int.natCast_mul, IntKind.wrap_u64, ← hP2]; rfl
      have hP2b : P2 < 18446744073709551616 := by rw [← hP2]; exact Nat.mod_lt _ (by decide)
      have hpo := Dv.pow_one a (2 * (b / 2 ^ k)) 18446744073709551616
      rw [← hsq] at hpo
      obtain ⟨P3, hP3⟩ : ∃ P3, P2 * a % 18446744073709551616 = P3 := ⟨_, rfl⟩
      rw [hP3] at hpo
      have hPI3 : IntKind.u64.wrap ((P2 : Int) * (a : Int)) = (P3 : Int) := by rw [← Int.natCast_mul, IntKind.wrap_u64, ← hP3]; rfl
      rw [hP]
      have hP2I : (P2 : Int) ≤ 18446744073709551615 := by omega
      have hPI : (P : Int) ≤ 18446744073709551615 := by omega
      rcases hβ2 with h0 | h0
      · subst h0
        have HE : Hid (PS a b j (.int .u64 (P2 : Int))) := Lib.hid (by unfold PS; rw [htp, Nat.add_zero, ← hsq])
        have hz1 : (((0 : Nat) : Int) == 1) = false := by decide
        clear hk htp hbj hβ hβI hd1 hP hPb hsq hP2 hP2b hpo hP3 hPI3
        go_wp2
        go_round
        case rel => exact ⟨(j : Int) - 1, j, Lib.hid ⟨rfl, HE.out⟩, by omega, by omega, rfl⟩
        case measure => first | (simp [intOf]; done) | (simp [intOf]; omega)
      · subst h0
        have HE : Hid (PS a b j (.int .u64 (P3 : Int))) := Lib.hid (by unfold PS; rw [htp, ← hpo])
        have hz1 : (((1 : Nat) : Int) == 1) = true := by decide
        clear hk htp hbj hβ hβI hd1 hP hPb hsq hP2 hP2b hpo hP3
        go_wp2
        go_round
        case rel => exact ⟨(j : Int) - 1, j, Lib.hid ⟨rfl, HE.out⟩, by omega, by omega, rfl⟩
        case measure => first | (simp [intOf]; done) | (simp [intOf]; omega)
    · have hk0 : k = 0 := by have := HZ.out; omega
      subst hk0
      rw [Nat.pow_zero, Nat.div_one, HRR.out]
      go_wp2
      go_ret2
      exact ⟨rfl, rfl⟩
/-! ## quotients -/
theorem size_mag (a : Nat) (w : World) (ha : a < 18446744073709551616) :
    Calls Tryd.prog 38 #[.int .u64 a] w fun e w' => e = .returned (.int .u64 (Dv.mag a)) ∧ w = w' := by
  have haI : (a : Int) ≤ 18446744073709551615 := by omega
  by_cases h : (9223372036854775808 : Int) ≤ (a : Int)
  · have e : IntKind.u64.wrap (0 - (a : Int)) = (Dv.mag a : Int) := by rw [IntKind.wrap_u64]; unfold Dv.mag; rw [if_neg (by omega)]; omega
    have e2 : IntKind.u64.wrap (-(a : Int)) = (Dv.mag a : Int) := by rw [← e, Int.zero_sub]
    clear ha
    go_enter Tryd.func38, Tryd.ntmps38
    go_wp2
    go_ret
    exact ⟨rfl, rfl⟩
  · have e : Dv.mag a = a := by unfold Dv.mag; rw [if_pos (by omega)]
    have hd : decide ((9223372036854775808 : Int) ≤ (a : Int)) = false := by rw [decide_eq_false_iff_not]; exact h
    rw [e]
    clear ha h e
    go_enter Tryd.func38, Tryd.ntmps38
    go_wp2
    go_ret
    exact ⟨rfl, rfl⟩
theorem neg_any (a : Nat) (w : World) (ha : a < 18446744073709551616) :
    Calls Tryd.prog 39 #[.int .u64 a] w fun e w' => e = .returned (.bool (decide ((9223372036854775808 : Int) ≤ (a : Int)))) ∧ w = w' := by
  have haI : (a : Int) ≤ 18446744073709551615 := by omega
  clear ha
  go_enter Tryd.func39, Tryd.ntmps39
  go_wp2
  go_ret
  exact ⟨rfl, rfl⟩
end W1
end Go.Proofs.YtebfecnpkifgeaaDoor
