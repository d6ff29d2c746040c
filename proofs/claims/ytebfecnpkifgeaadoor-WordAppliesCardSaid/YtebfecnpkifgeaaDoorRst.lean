/-
  mootref01.Rest: long division bit by bit. Own work.
-/
import Derived.Test.YtebfecnpkifgeaaDoorDv
import Derived.Test.YtebfecnpkifgeaaDoorRow
import Derived.Test.YtebfecnpkifgeaaDoorProg
import Derived.Outline
import Derived.Lib.Hide
import Derived.OpenShut
import Derived.Deep.QuietTactic
import Derived.BigQuiet
import Derived.Deep.Cut
import Derived.Deep.CutBlock
import Derived.Laws.Bits64
namespace Go.Proofs.YtebfecnpkifgeaaDoor
open Go.RowKit
set_option linter.unusedVariables false
namespace W1
theorem nat_le_u64 {a : Nat} (h : a < 18446744073709551616) : (a : Int) ≤ 18446744073709551615 := by omega
theorem or_bit (x b : Int) (h0 : 0 ≤ x) (h1 : x ≤ 18446744073709551615) (he : x % 2 = 0) (hb0 : 0 ≤ b) (hb : b ≤ 1) : Go.bits .or .u64 x b = x + b := by
  go_bits2
/-- The state of the loop: the bits from k on are done. -/
def RS (N n : Nat) (k : Nat) (q r : Value) : Prop := q = .int .u64 ((N / 2 ^ k / n % 18446744073709551616 : Nat) : Int) ∧ r = .int .u64 ((N / 2 ^ k % n : Nat) : Int)
set_option maxHeartbeats 1000000 in
theorem refRest_any (h l n : Nat) (w : World) (hh : h < 18446744073709551616) (hl : l < 18446744073709551616) (hn : 0 < n) (hn2 : n < 18446744073709551616) :
    Calls Tryd.prog 26 #[.int .u64 h, .int .u64 l, .int .u64 n] w fun e w' => e = .returned (.tuple #[.int .u64 (((h * 18446744073709551616 + l) / n % 18446744073709551616 : Nat) : Int), .int .u64 (((h * 18446744073709551616 + l) % n : Nat) : Int)]) ∧ w = w' := by
  obtain ⟨N, hN⟩ : ∃ N, h * 18446744073709551616 + l = N := ⟨_, rfl⟩
  have HN := Lib.hid hN
  rw [hN]
  have hst : RS N n 128 (.int .u64 0) (.int .u64 0) := by
    have : N / 2 ^ 128 = 0 := Nat.div_eq_of_lt (by rw [← hN]; omega)
    unfold RS; rw [this]; simp
  have HST := Lib.hid hst
  have HH := Lib.hid (And.intro hh (And.intro hl (And.intro hn hn2)))
  clear hN hst hh hl hn hn2
  go_enter Tryd.func26, Tryd.ntmps26
  go_wp2
  go_loop [8, 9, 10] (fun q r i => ∃ (z : Int) (k : Nat), Hid (z = (k : Int) - 1 ∧ RS N n k q r) ∧ -1 ≤ z ∧ z ≤ 127 ∧ i = .int .i64 z) (fun _ _ i => (intOf i + 1).toNat)
  case atStart => exact ⟨127, 128, Lib.hid ⟨rfl, HST.out⟩, by decide, by decide, rfl⟩
  case round =>
    obtain ⟨z, k, HR, hz1, hz2, rfl⟩ := hrel
    obtain ⟨hzk, hq, hr⟩ := HR.out
    subst hq hr
    have HZ := Lib.hid hzk
    clear HR hzk
    by_cases hz : 0 ≤ z
    · obtain ⟨j, rfl⟩ : ∃ j : Nat, z = j := ⟨z.toNat, by omega⟩
      have hk : k = j + 1 := by have := HZ.out; omega
      have HK := Lib.hid hk
      have hjn : j ≤ 127 := by omega
      clear hk HZ
      obtain ⟨β, hβ⟩ : ∃ β : Nat, N / 2 ^ j % 2 = β := ⟨_, rfl⟩
      have hβ2 : β < 2 := by omega
      have HB := Lib.hid hβ
      clear hβ
      by_cases h64 : (64 : Int) ≤ (j : Int)
      case' pos =>
        obtain ⟨m, hm⟩ : ∃ m : Nat, (j : Int) - 64 = (m : Int) := ⟨j - 64, by omega⟩
        have hd0 : h / 2 ^ m < 18446744073709551616 := Nat.lt_of_le_of_lt (Nat.div_le_self _ _) HH.out.1
        have hd1 : ((h / 2 ^ m : Nat) : Int) = (h : Int) / 2 ^ m := by rw [Int.natCast_ediv, Int.natCast_pow]; rfl
        have a1 := and_one_u64 ((h : Int) / 2 ^ m) (by rw [← hd1]; exact Int.natCast_nonneg _) (by rw [← hd1]; exact nat_le_u64 hd0)
        have HV : Hid ((h : Int) / 2 ^ m % 2 = (β : Int)) := Lib.hid (by
          rw [← hd1, ← HB.out, ← HN.out, show j = m + 64 from by omega]
          have := Dv.bit_hi (h := h) (l := l) (i := m + 64) HH.out.2.1 (by omega)
          rw [Nat.add_sub_cancel] at this
          rw [show (18446744073709551616 : Nat) = 2 ^ 64 from by decide, this]
          omega)
        clear hd0 hd1
        go_upto_region 9 with (fail)
        rw [HV.out]
        clear a1 hm h64 HV
      case' neg =>
        have hd0 : l / 2 ^ j < 18446744073709551616 := Nat.lt_of_le_of_lt (Nat.div_le_self _ _) HH.out.2.1
        have hd1 : ((l / 2 ^ j : Nat) : Int) = (l : Int) / 2 ^ j := by rw [Int.natCast_ediv, Int.natCast_pow]; rfl
        have a1 := and_one_u64 ((l : Int) / 2 ^ j) (by rw [← hd1]; exact Int.natCast_nonneg _) (by rw [← hd1]; exact nat_le_u64 hd0)
        have HV : Hid ((l : Int) / 2 ^ j % 2 = (β : Int)) := Lib.hid (by
          rw [← hd1, ← HB.out, ← HN.out]
          have := Dv.bit_lo (h := h) (l := l) (i := j) (by omega)
          rw [show (18446744073709551616 : Nat) = 2 ^ 64 from by decide, this]
          omega)
        clear hd0 hd1
        go_upto_region 9 with (fail)
        rw [HV.out]
        clear a1 h64 HV
      all_goals
        have hbs := Dv.bit_step (t := N / 2 ^ k) (b := β) (n := n) HH.out.2.2.1 hβ2
        have htp := Dv.top_step N j
        rw [HB.out, ← HK.out] at htp
        rw [← htp] at hbs
        have HS := Lib.hid hbs
        have hRn := Nat.mod_lt (N / 2 ^ k) HH.out.2.2.1
        have hn2 := HH.out.2.2.2
        generalize N / 2 ^ k % n = R at *
        generalize N / 2 ^ k / n = Q0 at *
        have hQ : Q0 % 18446744073709551616 < 18446744073709551616 := Nat.mod_lt _ (by decide)
        have HQ := Lib.hid (show 2 * Q0 % 18446744073709551616 = (2 * (Q0 % 18446744073709551616)) % 18446744073709551616 by omega)
        generalize Q0 % 18446744073709551616 = Q at *
        clear hbs htp
        have hRI : (R : Int) ≤ 18446744073709551615 := by omega
        have hQI : (Q : Int) ≤ 18446744073709551615 := by omega
        have hnI : (n : Int) ≤ 18446744073709551615 := by omega
        have hRnI : (R : Int) < (n : Int) := by omega
        clear hn2 hQ hRn
        by_cases htop : (R : Int) / 9223372036854775808 = 1
        · have ht : ((R : Int) / 9223372036854775808 == 1) = true := by simpa using htop
          have hge : n ≤ 2 * R + β := by omega
          rw [if_pos hge, if_pos hge] at HS
          obtain ⟨A, hA⟩ : ∃ A : Nat, IntKind.u64.wrap ((R : Int) * 2) = (A : Int) := ⟨2 * R - 18446744073709551616, by rw [IntKind.wrap_u64]; omega⟩
          have hA2 : A = 2 * R - 18446744073709551616 ∧ 9223372036854775808 ≤ R := by rw [IntKind.wrap_u64] at hA; omega
          obtain ⟨P, hP⟩ : ∃ P : Nat, IntKind.u64.wrap ((Q : Int) * 2) = (P : Int) := ⟨2 * Q % 18446744073709551616, by rw [IntKind.wrap_u64]; omega⟩
          have hP2 : P = 2 * Q % 18446744073709551616 := by rw [IntKind.wrap_u64] at hP; omega
          have ho : Go.bits .or .u64 (A : Int) (β : Int) = (A : Int) + β := or_bit _ _ (by omega) (by omega) (by omega) (by omega) (by omega)
          have hp : Go.bits .or .u64 (P : Int) 1 = (P : Int) + 1 := or_bit _ _ (by omega) (by omega) (by omega) (by omega) (by omega)
          obtain ⟨G, hG⟩ : ∃ G : Nat, IntKind.u64.wrap ((A : Int) + β - n) = (G : Int) := ⟨2 * R + β - n, by rw [IntKind.wrap_u64]; omega⟩
          have hG2 : G = 2 * R + β - n := by rw [IntKind.wrap_u64] at hG; omega
          have HE : Hid (RS N n j (.int .u64 ((P : Int) + 1)) (.int .u64 (G : Int))) := Lib.hid (by
            unfold RS
            rw [HS.out.1, HS.out.2, hG2]
            have := HQ.out
            refine ⟨?_, rfl⟩
            have e : ((2 * Q0 + 1) % 18446744073709551616 : Nat) = P + 1 := by omega
            rw [e]; rfl)
          have hAI : (A : Int) ≤ 18446744073709551614 := by omega
          have hbI : (β : Int) ≤ 1 := by omega
          have hPI : (P : Int) ≤ 18446744073709551614 := by omega
          clear hA2 hP2 hG2 hge htop HS HQ hQI hRI
          go_wp2
          go_round
          case rel => exact ⟨(j : Int) - 1, j, Lib.hid ⟨rfl, HE.out⟩, by omega, by omega, rfl⟩
          case measure => first | (simp [intOf]; done) | (simp [intOf]; omega)
        · have ht : ((R : Int) / 9223372036854775808 == 1) = false := by simpa using htop
          have hRs : (R : Int) < 9223372036854775808 := by omega
          obtain ⟨P, hP⟩ : ∃ P : Nat, IntKind.u64.wrap ((Q : Int) * 2) = (P : Int) := ⟨2 * Q % 18446744073709551616, by rw [IntKind.wrap_u64]; omega⟩
          have hP2 : P = 2 * Q % 18446744073709551616 := by rw [IntKind.wrap_u64] at hP; omega
          have ho : Go.bits .or .u64 ((R : Int) * 2) (β : Int) = (R : Int) * 2 + β := or_bit _ _ (by omega) (by omega) (by omega) (by omega) (by omega)
          have hp : Go.bits .or .u64 (P : Int) 1 = (P : Int) + 1 := or_bit _ _ (by omega) (by omega) (by omega) (by omega) (by omega)
          have hPI : (P : Int) ≤ 18446744073709551614 := by omega
          have hbI : (β : Int) ≤ 1 := by omega
          by_cases hge : n ≤ 2 * R + β
          · rw [if_pos hge, if_pos hge] at HS
            have hgeI : (n : Int) ≤ (R : Int) * 2 + (β : Int) := by omega
            have HE : Hid (RS N n j (.int .u64 ((P : Int) + 1)) (.int .u64 ((R : Int) * 2 + β - n))) := Lib.hid (by
              unfold RS
              rw [HS.out.1, HS.out.2]
              have := HQ.out
              have e : ((2 * Q0 + 1) % 18446744073709551616 : Nat) = P + 1 := by omega
              rw [e]
              have e2 : ((2 * R + β - n : Nat) : Int) = (R : Int) * 2 + β - n := by omega
              rw [e2]
              exact ⟨rfl, rfl⟩)
            clear hP2 hge htop HS HQ hQI
            go_wp2
            go_round
            case rel => exact ⟨(j : Int) - 1, j, Lib.hid ⟨rfl, HE.out⟩, by omega, by omega, rfl⟩
            case measure => first | (simp [intOf]; done) | (simp [intOf]; omega)
          · rw [if_neg hge, if_neg hge] at HS
            have hgeI : decide ((n : Int) ≤ (R : Int) * 2 + (β : Int)) = false := by rw [decide_eq_false_iff_not]; omega
            have HE : Hid (RS N n j (.int .u64 (P : Int)) (.int .u64 ((R : Int) * 2 + β))) := Lib.hid (by
              unfold RS
              rw [HS.out.1, HS.out.2]
              have := HQ.out
              have e : ((2 * Q0 + 0) % 18446744073709551616 : Nat) = P := by omega
              rw [e]
              have e2 : ((2 * R + β : Nat) : Int) = (R : Int) * 2 + β := by omega
              rw [e2]
              exact ⟨rfl, rfl⟩)
            clear hP2 hge htop HS HQ hQI
            go_wp2
            go_round
            case rel => exact ⟨(j : Int) - 1, j, Lib.hid ⟨rfl, HE.out⟩, by omega, by omega, rfl⟩
            case measure => first | (simp [intOf]; done) | (simp [intOf]; omega)
    · have hk0 : k = 0 := by have := HZ.out; omega
      subst hk0
      rw [Nat.pow_zero, Nat.div_one]
      go_wp2
      go_ret2
      exact ⟨rfl, rfl⟩
end W1
end Go.Proofs.YtebfecnpkifgeaaDoor
