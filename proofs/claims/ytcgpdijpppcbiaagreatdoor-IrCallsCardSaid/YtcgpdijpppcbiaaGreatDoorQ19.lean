/- Merged of VWt VWv VWx. Own work. -/
import Derived.Test.YtcgpdijpppcbiaaGreatDoorQ18
namespace Go.Proofs.YtcgpdijpppcbiaaGreatDoor
open Go.RowKit
set_option linter.unusedVariables false
namespace W1
theorem run_min2 {P : Program} {ts : Array TypeId} {t : TypeId} {k : IntKind} (a b : Int) (w : World) :
    (Builtin.min_ ts t #[.int k a, .int k b]).run P w = .ok (.int k (min a b)) w := by
  have e : (if b < a then b else a) = min a b := by split <;> omega
  simp [Builtin.min_, Builtin.min2, e]
/-- The bit at a place, as the walk asks for it. -/
theorem bit_at (b F : Nat) (hb : b < 18446744073709551616) : Go.bits .and .u64 ((b : Int) / 2 ^ F) 1 = if b.testBit F then 1 else 0 := by
  have hd1 : (b : Int) / 2 ^ F = ((b / 2 ^ F : Nat) : Int) := by rw [Int.natCast_ediv, Int.natCast_pow]; rfl
  have hb2 : b / 2 ^ F < 18446744073709551616 := Nat.lt_of_le_of_lt (Nat.div_le_self _ _) hb
  rw [hd1, and_one_u64 _ (Int.natCast_nonneg _) (nat_le_u64 hb2), Nat.testBit_eq_decide_div_mod_eq]
  generalize b / 2 ^ F = c
  by_cases h : c % 2 = 1
  · simp [h]; omega
  · simp [h]; omega
/-- The next bit is laid. -/
theorem or_pow {T k t p : Nat} (hk : k < 64) (ht : T % 2 ^ k = t) (hp : 2 ^ k = p) : Go.bits .or .u64 (t : Int) (p : Int) = ((t + p : Nat) : Int) := by
  have h1 : T % 2 ^ k < 2 ^ k := Nat.mod_lt _ (Nat.pos_of_ne_zero (by simp))
  have h2 : 2 ^ k ≤ 2 ^ 63 := Nat.pow_le_pow_right (by decide) (by omega)
  subst ht hp
  rw [bits_or_u64_nat _ _ (by omega) (by omega), Dv.or_add h1]
theorem step_on {T k t p : Nat} (ht : T % 2 ^ k = t) (hp : 2 ^ k = p) (h : T.testBit k = true) : T % 2 ^ (k + 1) = t + p := by rw [Dv.mod_succ, h, ht, hp]; rfl
theorem step_off {T k t : Nat} (ht : T % 2 ^ k = t) (h : T.testBit k = false) : T % 2 ^ (k + 1) = t := by rw [Dv.mod_succ, h, ht]; rfl
theorem pow_wrap {k p : Nat} (hk : k < 64) (hp : 2 ^ k = p) : IntKind.u64.wrap ((2 : Int) ^ k) = (p : Int) ∧ p ≤ 9223372036854775808 := by
  have h2 : 2 ^ k ≤ 2 ^ 63 := Nat.pow_le_pow_right (by decide) (by omega)
  have e : ((2 ^ k : Nat) : Int) = (2 : Int) ^ k := by rw [Int.natCast_pow]; rfl
  rw [← e, hp, IntKind.wrap_u64]
  omega
theorem nsar_lt {a b : Nat} (hb : b < 2 ^ 64) : Dv.nsar a b < 2 ^ 64 := by
  unfold Dv.nsar
  split
  · exact Nat.lt_of_le_of_lt (Nat.div_le_self _ _) hb
  · generalize (2 ^ 64 - (b + 1)) / 2 ^ min a 64 = c; omega
theorem nsext_lt {a b : Nat} (hb : b < 2 ^ 64) : Dv.nsext a b < 2 ^ 64 := by
  unfold Dv.nsext
  split
  · exact hb
  · exact nsar_lt (Dv.nshl_lt _ _)
theorem nbyte_lt {a b : Nat} : Dv.nbyte a b < 2 ^ 64 := by
  unfold Dv.nbyte
  split
  · decide
  · exact Nat.lt_of_lt_of_le (Nat.mod_lt _ (by decide)) (by decide)
set_option maxHeartbeats 1000000 in
theorem turned_11 (a b : Nat) (w : World) (ha : a < 18446744073709551616) (hb : b < 18446744073709551616) :
    Calls Tryz.prog 22 #[.int .i64 11, .int .u64 a, .int .u64 b] w fun e w' => e = .returned (.int .u64 (Dv.nsext a b : Nat)) ∧ w = w' := by
  have HB : Hid (b < 2 ^ 64) := Lib.hid hb
  have HBIT : Hid (∀ k, k < 64 → (Dv.nsext a b).testBit k = _) := Lib.hid (fun k hk64 => Dv.nsext_bit hk64)
  have hb64 : b < 2 ^ 64 := hb
  have hlt := nsext_lt (a := a) hb64
  have HLT := Lib.hid (Nat.mod_eq_of_lt hlt)
  have haI : (a : Int) ≤ 18446744073709551615 := by omega
  have hbI : (b : Int) ≤ 18446744073709551615 := by omega
  have h0 : (Dv.nsext a b) % 2 ^ 0 = 0 := Nat.mod_one _
  have H0 := Lib.hid h0
  have mn := fun ts t k a b w => run_min2 (P := Tryz.prog) (ts := ts) (t := t) (k := k) a b w
  clear ha hb hlt h0 hb64
  go_enter Tryz.func22, Tryz.ntmps22
  go_wp2
  go_loop [7, 8] (fun o i => ∃ k t : Nat, k ≤ 64 ∧ i = .int .u64 k ∧ Hid (Dv.nsext a b % 2 ^ k = t) ∧ o = .int .u64 (t : Int)) (fun _ i => (64 - intOf i).toNat)
  case atStart => exact ⟨0, 0, by decide, rfl, H0, rfl⟩
  case round =>
    obtain ⟨k, t, hk, rfl, HT, rfl⟩ := hrel
    by_cases hk64 : k < 64
    · have hkI : (k : Int) < 64 := by omega
      obtain ⟨p, hpp⟩ : ∃ p, 2 ^ k = p := ⟨_, rfl⟩
      have HPP := Lib.hid hpp
      obtain ⟨hp, hpb⟩ := pow_wrap hk64 hpp
      have ho := or_pow hk64 HT.out hpp
      have htb : (t : Int) ≤ 18446744073709551615 := by
        have h1 := HT.out
        have h2 : Dv.nsext a b % 2 ^ k < 2 ^ k := Nat.mod_lt _ (Nat.pos_of_ne_zero (by simp))
        omega
      have hpI : (p : Int) ≤ 9223372036854775808 := by omega
      obtain ⟨s, hs⟩ : ∃ s, t + p = s := ⟨_, rfl⟩
      rw [hs] at ho
      have HSS := Lib.hid hs
      clear hpp hpb hs
      by_cases h8 : (a : Int) < 8
      · have hbit : (Dv.nsext a b).testBit k = b.testBit (min k (8 * a + 7)) := by rw [HBIT.out k hk64, if_pos (by omega)]
        obtain ⟨F, hF⟩ : ∃ F, min k (8 * a + 7) = F := ⟨_, rfl⟩
        rw [hF] at hbit
        have hFI : min (k : Int) (8 * (a : Int) + 7) = (F : Int) := by omega
        have hF64 : (F : Int) < 64 := by omega
        have a1 := bit_at b F HB.out
        cases hbt : b.testBit F with
        | true =>
          rw [hbt] at hbit a1
          simp only [if_true] at a1
          have HS := Lib.hid ((step_on HT.out HPP.out hbit).trans HSS.out)
          clear hbit hbt hF
          go_wp2
          go_round
          case rel => exact ⟨k + 1, _, by omega, by go_num, HS, rfl⟩
          case measure => first | (simp [intOf]; done) | (simp [intOf]; omega)
        | false =>
          rw [hbt] at hbit a1
          simp only [if_false, Bool.false_eq_true] at a1
          have HS := Lib.hid (step_off HT.out hbit)
          clear hbit hbt hF
          go_wp2
          go_round
          case rel => exact ⟨k + 1, _, by omega, by go_num, HS, rfl⟩
          case measure => first | (simp [intOf]; done) | (simp [intOf]; omega)
      · have hbit : (Dv.nsext a b).testBit k = b.testBit k := by rw [HBIT.out k hk64, if_neg (by omega)]
        have hd8 : decide ((a : Int) < 8) = false := by rw [decide_eq_false_iff_not]; exact h8
        have a1 := bit_at b k HB.out
        cases hbt : b.testBit k with
        | true =>
          rw [hbt] at hbit a1
          simp only [if_true] at a1
          have HS := Lib.hid ((step_on HT.out HPP.out hbit).trans HSS.out)
          clear hbit hbt h8
          go_wp2
          go_round
          case rel => exact ⟨k + 1, _, by omega, by go_num, HS, rfl⟩
          case measure => first | (simp [intOf]; done) | (simp [intOf]; omega)
        | false =>
          rw [hbt] at hbit a1
          simp only [if_false, Bool.false_eq_true] at a1
          have HS := Lib.hid (step_off HT.out hbit)
          clear hbit hbt h8
          go_wp2
          go_round
          case rel => exact ⟨k + 1, _, by omega, by go_num, HS, rfl⟩
          case measure => first | (simp [intOf]; done) | (simp [intOf]; omega)
    · obtain rfl : k = 64 := by omega
      go_wp2
      go_ret
      rw [show Dv.nsext a b = t by rw [← HLT.out, HT.out]]
      exact ⟨rfl, rfl⟩
set_option maxHeartbeats 1000000 in
theorem turned_12 (a b : Nat) (w : World) (ha : a < 18446744073709551616) (hb : b < 18446744073709551616) :
    Calls Tryz.prog 22 #[.int .i64 12, .int .u64 a, .int .u64 b] w fun e w' => e = .returned (.int .u64 (Dv.nbyte a b : Nat)) ∧ w = w' := by
  have HB : Hid (b < 2 ^ 64) := Lib.hid hb
  have HBIT : Hid (∀ k, k < 64 → (Dv.nbyte a b).testBit k = _) := Lib.hid (fun k hk64 => Dv.nbyte_bit)
  have hb64 : b < 2 ^ 64 := hb
  have hlt := nbyte_lt (a := a) (b := b)
  have HLT := Lib.hid (Nat.mod_eq_of_lt hlt)
  have haI : (a : Int) ≤ 18446744073709551615 := by omega
  have hbI : (b : Int) ≤ 18446744073709551615 := by omega
  have h0 : (Dv.nbyte a b) % 2 ^ 0 = 0 := Nat.mod_one _
  have H0 := Lib.hid h0
  have mn := fun ts t k a b w => run_min2 (P := Tryz.prog) (ts := ts) (t := t) (k := k) a b w
  clear ha hb hlt h0 hb64
  go_enter Tryz.func22, Tryz.ntmps22
  go_wp2
  go_loop [7, 8] (fun o i => ∃ k t : Nat, k ≤ 64 ∧ i = .int .u64 k ∧ Hid (Dv.nbyte a b % 2 ^ k = t) ∧ o = .int .u64 (t : Int)) (fun _ i => (64 - intOf i).toNat)
  case atStart => exact ⟨0, 0, by decide, rfl, H0, rfl⟩
  case round =>
    obtain ⟨k, t, hk, rfl, HT, rfl⟩ := hrel
    by_cases hk64 : k < 64
    · have hkI : (k : Int) < 64 := by omega
      obtain ⟨p, hpp⟩ : ∃ p, 2 ^ k = p := ⟨_, rfl⟩
      have HPP := Lib.hid hpp
      obtain ⟨hp, hpb⟩ := pow_wrap hk64 hpp
      have ho := or_pow hk64 HT.out hpp
      have htb : (t : Int) ≤ 18446744073709551615 := by
        have h1 := HT.out
        have h2 : Dv.nbyte a b % 2 ^ k < 2 ^ k := Nat.mod_lt _ (Nat.pos_of_ne_zero (by simp))
        omega
      have hpI : (p : Int) ≤ 9223372036854775808 := by omega
      obtain ⟨s, hs⟩ : ∃ s, t + p = s := ⟨_, rfl⟩
      rw [hs] at ho
      have HSS := Lib.hid hs
      clear hpp hpb hs
      obtain ⟨m, hm⟩ : ∃ m : Nat, min a 7 = m := ⟨_, rfl⟩
      have hmI : min (a : Int) 7 = (m : Int) := by omega
      have hm7 : (m : Int) ≤ 7 := by omega
      by_cases h8 : (a : Int) < 8
      · by_cases k8 : (k : Int) < 8
        · have hbit : (Dv.nbyte a b).testBit k = b.testBit (56 - 8 * m + k) := by rw [HBIT.out k hk64, hm]; simp; omega
          obtain ⟨F, hF⟩ : ∃ F, 56 - 8 * m + k = F := ⟨_, rfl⟩
          rw [hF] at hbit
          have hFI : 56 - 8 * (m : Int) + (k : Int) = (F : Int) := by omega
          have hF64 : (F : Int) < 64 := by omega
          have a1 := bit_at b F HB.out
          cases hbt : b.testBit F with
          | true =>
            rw [hbt] at hbit a1
            simp only [if_true] at a1
            have HS := Lib.hid ((step_on HT.out HPP.out hbit).trans HSS.out)
            clear hbit hbt hF hm
            go_wp2
            go_round
            case rel => exact ⟨k + 1, _, by omega, by go_num, HS, rfl⟩
            case measure => first | (simp [intOf]; done) | (simp [intOf]; omega)
          | false =>
            rw [hbt] at hbit a1
            simp only [if_false, Bool.false_eq_true] at a1
            have HS := Lib.hid (step_off HT.out hbit)
            clear hbit hbt hF hm
            go_wp2
            go_round
            case rel => exact ⟨k + 1, _, by omega, by go_num, HS, rfl⟩
            case measure => first | (simp [intOf]; done) | (simp [intOf]; omega)
        · have hbit : (Dv.nbyte a b).testBit k = false := by rw [HBIT.out k hk64]; simp; omega
          have hd8 : decide ((k : Int) < 8) = false := by rw [decide_eq_false_iff_not]; exact k8
          have HS := Lib.hid (step_off HT.out hbit)
          clear hbit k8 hm
          go_wp2
          go_round
          case rel => exact ⟨k + 1, _, by omega, by go_num, HS, rfl⟩
          case measure => first | (simp [intOf]; done) | (simp [intOf]; omega)
      · by_cases k8 : (k : Int) < 8
        · have hbit : (Dv.nbyte a b).testBit k = false := by rw [HBIT.out k hk64]; simp; omega
          have hd8 : decide ((a : Int) < 8) = false := by rw [decide_eq_false_iff_not]; exact h8
          have HS := Lib.hid (step_off HT.out hbit)
          clear hbit h8 hm
          go_wp2
          go_round
          case rel => exact ⟨k + 1, _, by omega, by go_num, HS, rfl⟩
          case measure => first | (simp [intOf]; done) | (simp [intOf]; omega)
        · have hbit : (Dv.nbyte a b).testBit k = false := by rw [HBIT.out k hk64]; simp; omega
          have hd8 : decide ((k : Int) < 8) = false := by rw [decide_eq_false_iff_not]; exact k8
          have HS := Lib.hid (step_off HT.out hbit)
          clear hbit k8 hm h8
          go_wp2
          go_round
          case rel => exact ⟨k + 1, _, by omega, by go_num, HS, rfl⟩
          case measure => first | (simp [intOf]; done) | (simp [intOf]; omega)
    · obtain rfl : k = 64 := by omega
      go_wp2
      go_ret
      rw [show Dv.nbyte a b = t by rw [← HLT.out, HT.out]]
      exact ⟨rfl, rfl⟩
set_option maxHeartbeats 1000000 in
theorem turned_13 (a b : Nat) (w : World) (ha : a < 18446744073709551616) (hb : b < 18446744073709551616) :
    Calls Tryz.prog 22 #[.int .i64 13, .int .u64 a, .int .u64 b] w fun e w' => e = .returned (.int .u64 (Dv.nshl a b : Nat)) ∧ w = w' := by
  have HB : Hid (b < 2 ^ 64) := Lib.hid hb
  have HBIT : Hid (∀ k, k < 64 → (Dv.nshl a b).testBit k = _) := Lib.hid (fun k hk64 => Dv.nshl_bit hk64)
  have hb64 : b < 2 ^ 64 := hb
  have hlt := Dv.nshl_lt a b
  have HLT := Lib.hid (Nat.mod_eq_of_lt hlt)
  have haI : (a : Int) ≤ 18446744073709551615 := by omega
  have hbI : (b : Int) ≤ 18446744073709551615 := by omega
  have h0 : (Dv.nshl a b) % 2 ^ 0 = 0 := Nat.mod_one _
  have H0 := Lib.hid h0
  have mn := fun ts t k a b w => run_min2 (P := Tryz.prog) (ts := ts) (t := t) (k := k) a b w
  clear ha hb hlt h0 hb64
  go_enter Tryz.func22, Tryz.ntmps22
  go_wp2
  go_loop [7, 8] (fun o i => ∃ k t : Nat, k ≤ 64 ∧ i = .int .u64 k ∧ Hid (Dv.nshl a b % 2 ^ k = t) ∧ o = .int .u64 (t : Int)) (fun _ i => (64 - intOf i).toNat)
  case atStart => exact ⟨0, 0, by decide, rfl, H0, rfl⟩
  case round =>
    obtain ⟨k, t, hk, rfl, HT, rfl⟩ := hrel
    by_cases hk64 : k < 64
    · have hkI : (k : Int) < 64 := by omega
      obtain ⟨p, hpp⟩ : ∃ p, 2 ^ k = p := ⟨_, rfl⟩
      have HPP := Lib.hid hpp
      obtain ⟨hp, hpb⟩ := pow_wrap hk64 hpp
      have ho := or_pow hk64 HT.out hpp
      have htb : (t : Int) ≤ 18446744073709551615 := by
        have h1 := HT.out
        have h2 : Dv.nshl a b % 2 ^ k < 2 ^ k := Nat.mod_lt _ (Nat.pos_of_ne_zero (by simp))
        omega
      have hpI : (p : Int) ≤ 9223372036854775808 := by omega
      obtain ⟨s, hs⟩ : ∃ s, t + p = s := ⟨_, rfl⟩
      rw [hs] at ho
      have HSS := Lib.hid hs
      clear hpp hpb hs
      by_cases h8 : a ≤ k
      · have hbit : (Dv.nshl a b).testBit k = b.testBit (k - a) := by rw [HBIT.out k hk64]; simp [h8]
        obtain ⟨F, hF⟩ : ∃ F, k - a = F := ⟨_, rfl⟩
        rw [hF] at hbit
        have hFI : (k : Int) - (a : Int) = (F : Int) := by omega
        have hd8 : decide (a ≤ k) = true := by simpa using h8
        have hF64 : (F : Int) < 64 := by omega
        have a1 := bit_at b F HB.out
        cases hbt : b.testBit F with
        | true =>
          rw [hbt] at hbit a1
          simp only [if_true] at a1
          have HS := Lib.hid ((step_on HT.out HPP.out hbit).trans HSS.out)
          clear hbit hbt hF
          go_wp2
          go_round
          case rel => exact ⟨k + 1, _, by omega, by go_num, HS, rfl⟩
          case measure => first | (simp [intOf]; done) | (simp [intOf]; omega)
        | false =>
          rw [hbt] at hbit a1
          simp only [if_false, Bool.false_eq_true] at a1
          have HS := Lib.hid (step_off HT.out hbit)
          clear hbit hbt hF
          go_wp2
          go_round
          case rel => exact ⟨k + 1, _, by omega, by go_num, HS, rfl⟩
          case measure => first | (simp [intOf]; done) | (simp [intOf]; omega)
      · have hbit : (Dv.nshl a b).testBit k = false := by rw [HBIT.out k hk64]; simp [h8]
        have hd8 : decide (a ≤ k) = false := by rw [decide_eq_false_iff_not]; exact h8
        have HS := Lib.hid (step_off HT.out hbit)
        clear hbit h8
        go_wp2
        go_round
        case rel => exact ⟨k + 1, _, by omega, by go_num, HS, rfl⟩
        case measure => first | (simp [intOf]; done) | (simp [intOf]; omega)
    · obtain rfl : k = 64 := by omega
      go_wp2
      go_ret
      rw [show Dv.nshl a b = t by rw [← HLT.out, HT.out]]
      exact ⟨rfl, rfl⟩
set_option maxHeartbeats 1000000 in
theorem turned_14 (a b : Nat) (w : World) (ha : a < 18446744073709551616) (hb : b < 18446744073709551616) :
    Calls Tryz.prog 22 #[.int .i64 14, .int .u64 a, .int .u64 b] w fun e w' => e = .returned (.int .u64 (Dv.nshr a b : Nat)) ∧ w = w' := by
  have HB : Hid (b < 2 ^ 64) := Lib.hid hb
  have HBIT : Hid (∀ k, k < 64 → (Dv.nshr a b).testBit k = _) := Lib.hid (fun k hk64 => Dv.nshr_bit hb hk64)
  have hb64 : b < 2 ^ 64 := hb
  have hlt := (Nat.lt_of_le_of_lt (Nat.div_le_self _ _) hb64 : Dv.nshr a b < 2 ^ 64)
  have HLT := Lib.hid (Nat.mod_eq_of_lt hlt)
  have haI : (a : Int) ≤ 18446744073709551615 := by omega
  have hbI : (b : Int) ≤ 18446744073709551615 := by omega
  have h0 : (Dv.nshr a b) % 2 ^ 0 = 0 := Nat.mod_one _
  have H0 := Lib.hid h0
  have mn := fun ts t k a b w => run_min2 (P := Tryz.prog) (ts := ts) (t := t) (k := k) a b w
  clear ha hb hlt h0 hb64
  go_enter Tryz.func22, Tryz.ntmps22
  go_wp2
  go_loop [7, 8] (fun o i => ∃ k t : Nat, k ≤ 64 ∧ i = .int .u64 k ∧ Hid (Dv.nshr a b % 2 ^ k = t) ∧ o = .int .u64 (t : Int)) (fun _ i => (64 - intOf i).toNat)
  case atStart => exact ⟨0, 0, by decide, rfl, H0, rfl⟩
  case round =>
    obtain ⟨k, t, hk, rfl, HT, rfl⟩ := hrel
    by_cases hk64 : k < 64
    · have hkI : (k : Int) < 64 := by omega
      obtain ⟨p, hpp⟩ : ∃ p, 2 ^ k = p := ⟨_, rfl⟩
      have HPP := Lib.hid hpp
      obtain ⟨hp, hpb⟩ := pow_wrap hk64 hpp
      have ho := or_pow hk64 HT.out hpp
      have htb : (t : Int) ≤ 18446744073709551615 := by
        have h1 := HT.out
        have h2 : Dv.nshr a b % 2 ^ k < 2 ^ k := Nat.mod_lt _ (Nat.pos_of_ne_zero (by simp))
        omega
      have hpI : (p : Int) ≤ 9223372036854775808 := by omega
      obtain ⟨s, hs⟩ : ∃ s, t + p = s := ⟨_, rfl⟩
      rw [hs] at ho
      have HSS := Lib.hid hs
      clear hpp hpb hs
      by_cases h8 : (a : Int) < 64 - (k : Int)
      · have hbit : (Dv.nshr a b).testBit k = b.testBit (k + a) := by rw [HBIT.out k hk64]; simp; omega
        obtain ⟨F, hF⟩ : ∃ F, k + a = F := ⟨_, rfl⟩
        rw [hF] at hbit
        have hFI : (k : Int) + (a : Int) = (F : Int) := by omega
        have hF64 : (F : Int) < 64 := by omega
        have a1 := bit_at b F HB.out
        cases hbt : b.testBit F with
        | true =>
          rw [hbt] at hbit a1
          simp only [if_true] at a1
          have HS := Lib.hid ((step_on HT.out HPP.out hbit).trans HSS.out)
          clear hbit hbt hF
          go_wp2
          go_round
          case rel => exact ⟨k + 1, _, by omega, by go_num, HS, rfl⟩
          case measure => first | (simp [intOf]; done) | (simp [intOf]; omega)
        | false =>
          rw [hbt] at hbit a1
          simp only [if_false, Bool.false_eq_true] at a1
          have HS := Lib.hid (step_off HT.out hbit)
          clear hbit hbt hF
          go_wp2
          go_round
          case rel => exact ⟨k + 1, _, by omega, by go_num, HS, rfl⟩
          case measure => first | (simp [intOf]; done) | (simp [intOf]; omega)
      · have hbit : (Dv.nshr a b).testBit k = false := by rw [HBIT.out k hk64]; simp; omega
        have hd8 : decide ((a : Int) < 64 - (k : Int)) = false := by rw [decide_eq_false_iff_not]; exact h8
        have HS := Lib.hid (step_off HT.out hbit)
        clear hbit h8
        go_wp2
        go_round
        case rel => exact ⟨k + 1, _, by omega, by go_num, HS, rfl⟩
        case measure => first | (simp [intOf]; done) | (simp [intOf]; omega)
    · obtain rfl : k = 64 := by omega
      go_wp2
      go_ret
      rw [show Dv.nshr a b = t by rw [← HLT.out, HT.out]]
      exact ⟨rfl, rfl⟩
set_option maxHeartbeats 1000000 in
theorem turned_15 (a b : Nat) (w : World) (ha : a < 18446744073709551616) (hb : b < 18446744073709551616) :
    Calls Tryz.prog 22 #[.int .i64 15, .int .u64 a, .int .u64 b] w fun e w' => e = .returned (.int .u64 (Dv.nsar a b : Nat)) ∧ w = w' := by
  have HB : Hid (b < 2 ^ 64) := Lib.hid hb
  have HBIT : Hid (∀ k, k < 64 → (Dv.nsar a b).testBit k = _) := Lib.hid (fun k hk64 => Dv.nsar_bit hb hk64)
  have hb64 : b < 2 ^ 64 := hb
  have hlt := nsar_lt (a := a) hb64
  have HLT := Lib.hid (Nat.mod_eq_of_lt hlt)
  have haI : (a : Int) ≤ 18446744073709551615 := by omega
  have hbI : (b : Int) ≤ 18446744073709551615 := by omega
  have h0 : (Dv.nsar a b) % 2 ^ 0 = 0 := Nat.mod_one _
  have H0 := Lib.hid h0
  have mn := fun ts t k a b w => run_min2 (P := Tryz.prog) (ts := ts) (t := t) (k := k) a b w
  clear ha hb hlt h0 hb64
  go_enter Tryz.func22, Tryz.ntmps22
  go_wp2
  go_loop [7, 8] (fun o i => ∃ k t : Nat, k ≤ 64 ∧ i = .int .u64 k ∧ Hid (Dv.nsar a b % 2 ^ k = t) ∧ o = .int .u64 (t : Int)) (fun _ i => (64 - intOf i).toNat)
  case atStart => exact ⟨0, 0, by decide, rfl, H0, rfl⟩
  case round =>
    obtain ⟨k, t, hk, rfl, HT, rfl⟩ := hrel
    by_cases hk64 : k < 64
    · have hkI : (k : Int) < 64 := by omega
      obtain ⟨p, hpp⟩ : ∃ p, 2 ^ k = p := ⟨_, rfl⟩
      have HPP := Lib.hid hpp
      obtain ⟨hp, hpb⟩ := pow_wrap hk64 hpp
      have ho := or_pow hk64 HT.out hpp
      have htb : (t : Int) ≤ 18446744073709551615 := by
        have h1 := HT.out
        have h2 : Dv.nsar a b % 2 ^ k < 2 ^ k := Nat.mod_lt _ (Nat.pos_of_ne_zero (by simp))
        omega
      have hpI : (p : Int) ≤ 9223372036854775808 := by omega
      obtain ⟨s, hs⟩ : ∃ s, t + p = s := ⟨_, rfl⟩
      rw [hs] at ho
      have HSS := Lib.hid hs
      clear hpp hpb hs
      by_cases h8 : (a : Int) < 64 - (k : Int)
      · have hbit : (Dv.nsar a b).testBit k = b.testBit (k + a) := by rw [HBIT.out k hk64]; rw [if_pos (by omega)]
        obtain ⟨F, hF⟩ : ∃ F, k + a = F := ⟨_, rfl⟩
        rw [hF] at hbit
        have hFI : (k : Int) + (a : Int) = (F : Int) := by omega
        have hF64 : (F : Int) < 64 := by omega
        have a1 := bit_at b F HB.out
        cases hbt : b.testBit F with
        | true =>
          rw [hbt] at hbit a1
          simp only [if_true] at a1
          have HS := Lib.hid ((step_on HT.out HPP.out hbit).trans HSS.out)
          clear hbit hbt hF
          go_wp2
          go_round
          case rel => exact ⟨k + 1, _, by omega, by go_num, HS, rfl⟩
          case measure => first | (simp [intOf]; done) | (simp [intOf]; omega)
        | false =>
          rw [hbt] at hbit a1
          simp only [if_false, Bool.false_eq_true] at a1
          have HS := Lib.hid (step_off HT.out hbit)
          clear hbit hbt hF
          go_wp2
          go_round
          case rel => exact ⟨k + 1, _, by omega, by go_num, HS, rfl⟩
          case measure => first | (simp [intOf]; done) | (simp [intOf]; omega)
      · have hbit : (Dv.nsar a b).testBit k = b.testBit 63 := by rw [HBIT.out k hk64, if_neg (by omega)]
        have hd8 : decide ((a : Int) < 64 - (k : Int)) = false := by rw [decide_eq_false_iff_not]; exact h8
        have a1 := bit_at b 63 HB.out
        rw [show (2 : Int) ^ 63 = 9223372036854775808 from by decide] at a1
        cases hbt : b.testBit 63 with
        | true =>
          rw [hbt] at hbit a1
          simp only [if_true] at a1
          have HS := Lib.hid ((step_on HT.out HPP.out hbit).trans HSS.out)
          clear hbit hbt h8
          go_wp2
          go_round
          case rel => exact ⟨k + 1, _, by omega, by go_num, HS, rfl⟩
          case measure => first | (simp [intOf]; done) | (simp [intOf]; omega)
        | false =>
          rw [hbt] at hbit a1
          simp only [if_false, Bool.false_eq_true] at a1
          have HS := Lib.hid (step_off HT.out hbit)
          clear hbit hbt h8
          go_wp2
          go_round
          case rel => exact ⟨k + 1, _, by omega, by go_num, HS, rfl⟩
          case measure => first | (simp [intOf]; done) | (simp [intOf]; omega)
    · obtain rfl : k = 64 := by omega
      go_wp2
      go_ret
      rw [show Dv.nsar a b = t by rw [← HLT.out, HT.out]]
      exact ⟨rfl, rfl⟩
end W1
end Go.Proofs.YtcgpdijpppcbiaaGreatDoor
namespace Go.Proofs.YtcgpdijpppcbiaaGreatDoor
open Go.RowKit
set_option linter.unusedVariables false
namespace W1
theorem cpow (k : Nat) : ((2 ^ k : Nat) : Int) = (2 : Int) ^ k := by rw [Int.natCast_pow]; rfl
theorem ushl (a b : Nat) : U.shl a b = (Dv.nshl a b : Nat) := by
  unfold U.shl Dv.nshl
  rw [Int.toNat_natCast, ← cpow, ← Int.natCast_mul]
  generalize b * 2 ^ min a 64 = c
  omega
theorem ushr (a b : Nat) : U.shr a b = (Dv.nshr a b : Nat) := by
  unfold U.shr Dv.nshr
  rw [Int.toNat_natCast, ← cpow, Int.natCast_ediv]
theorem usar (a b : Nat) (hb : b < 2 ^ 64) : U.sar a b = (Dv.nsar a b : Nat) := by
  unfold U.sar Dv.nsar
  rw [Int.toNat_natCast, ← cpow]
  have hp : 0 < 2 ^ min a 64 := Nat.pos_of_ne_zero (by simp)
  generalize 2 ^ min a 64 = d at *
  unfold U.sg
  by_cases h : b < 2 ^ 63
  · rw [if_pos (by omega), if_pos h, ← Int.natCast_ediv]
    have := Nat.div_le_self b d
    generalize b / d = c at *
    omega
  · rw [if_neg (by omega), if_neg h]
    obtain ⟨c, hc⟩ : ∃ c, 2 ^ 64 - (b + 1) = c := ⟨_, rfl⟩
    rw [hc]
    have e : (b : Int) - 18446744073709551616 = Int.negSucc c := by rw [Int.negSucc_eq]; omega
    rw [e, Int.negSucc_ediv c (by omega)]
    have h2 : c / d ≤ c := Nat.div_le_self _ _
    have e2 : (c : Int).ediv (d : Int) = ((c / d : Nat) : Int) := rfl
    rw [e2]
    generalize c / d = g at *
    omega
theorem ubyte (a b : Nat) : U.byte a b = (Dv.nbyte a b : Nat) := by
  unfold U.byte Dv.nbyte
  by_cases h : 7 < a
  · rw [if_pos (by omega), if_pos h]; rfl
  · rw [if_neg (by omega), if_neg h, show (56 - 8 * (a : Int)).toNat = 56 - 8 * a by omega, ← cpow, ← Int.natCast_ediv]
    rfl
theorem usext (a b : Nat) (hb : b < 2 ^ 64) : U.sext a b = (Dv.nsext a b : Nat) := by
  unfold U.sext Dv.nsext
  by_cases h : 7 ≤ a
  · rw [if_pos (by omega), if_pos h]
  · rw [if_neg (by omega), if_neg h, show (56 - 8 * (a : Int)).toNat = 56 - 8 * a by omega, ← usar _ _ (Dv.nshl_lt _ _), ← ushl]
    unfold U.sar U.shl
    rw [Int.toNat_natCast, show min (56 - 8 * a) 64 = 56 - 8 * a by omega]
/-! ## the document's Apply over its helpers -/
theorem ref_mul (a b : Nat) (c : Int) (w : World) (ha : a < 18446744073709551616) (hb : b < 18446744073709551616) :
    Calls Tryz.prog 6 #[.int .i64 3, .int .u64 a, .int .u64 b, .int .u64 c] w fun e w' => e = .returned (.tuple #[.int .u64 (U.mul a b), .int .i64 0]) ∧ w = w' := by
  have HW := Lib.hid (refWide_any a b w ha hb)
  have e : U.mul a b = ((a * b % 18446744073709551616 : Nat) : Int) := by unfold U.mul; rw [← Int.natCast_mul]; rfl
  rw [e]
  obtain ⟨H, hH⟩ : ∃ H, a * b / 18446744073709551616 = H := ⟨_, rfl⟩
  obtain ⟨Lw, hLw⟩ : ∃ H, a * b % 18446744073709551616 = H := ⟨_, rfl⟩
  rw [hH, hLw] at HW
  rw [hLw]
  clear ha hb e hH hLw
  go_enter Tryz.func6, Tryz.ntmps6
  go_wp2_with (go_at_call 18; (with_reducible refine HW.out.mono ?_); rintro e _ ⟨rfl, rfl⟩)
  go_ret2
  exact ⟨rfl, rfl⟩
theorem ref_div (a b : Nat) (c : Int) (w : World) (ha : a < 18446744073709551616) (hb : b < 18446744073709551616) :
    Calls Tryz.prog 6 #[.int .i64 4, .int .u64 a, .int .u64 b, .int .u64 c] w fun e w' => e = .returned (.tuple #[.int .u64 (U.div a b), .int .i64 0]) ∧ w = w' := by
  have hd : Calls Tryz.prog 19 #[.int .i64 4, .int .u64 a, .int .u64 b] w fun e w' => e = .returned (.int .u64 (U.div a b)) ∧ w = w' := by
    rcases Nat.eq_zero_or_pos b with h | h
    · subst h
      have e : U.div (a : Int) ((0 : Nat) : Int) = 0 := by unfold U.div; exact if_pos rfl
      rw [e]
      exact divided_zero 4 a w
    · have e : U.div a b = ((a / b : Nat) : Int) := by unfold U.div; rw [if_neg (by omega)]; rfl
      rw [e]
      exact divided_4 a b w ha h hb
  have HD := Lib.hid hd
  obtain ⟨V, hV⟩ : ∃ V, U.div a b = V := ⟨_, rfl⟩
  rw [hV] at HD ⊢
  clear ha hb hd hV
  go_enter Tryz.func6, Tryz.ntmps6
  go_wp2_with (go_at_call 19; (with_reducible refine HD.out.mono ?_); rintro e _ ⟨rfl, rfl⟩)
  go_ret2
  exact ⟨rfl, rfl⟩
theorem ref_sdiv (a b : Nat) (c : Int) (w : World) (ha : a < 18446744073709551616) (hb : b < 18446744073709551616) :
    Calls Tryz.prog 6 #[.int .i64 5, .int .u64 a, .int .u64 b, .int .u64 c] w fun e w' => e = .returned (.tuple #[.int .u64 (U.sdiv a b), .int .i64 0]) ∧ w = w' := by
  have hd : Calls Tryz.prog 19 #[.int .i64 5, .int .u64 a, .int .u64 b] w fun e w' => e = .returned (.int .u64 (U.sdiv a b)) ∧ w = w' := by
    rcases Nat.eq_zero_or_pos b with h | h
    · subst h
      have e : U.sdiv (a : Int) ((0 : Nat) : Int) = 0 := by unfold U.sdiv; exact if_pos rfl
      rw [e]
      exact divided_zero 5 a w
    · have e : U.sdiv a b = U.sdiv a b := rfl
      rw [e]
      exact divided_5 a b w ha h hb
  have HD := Lib.hid hd
  obtain ⟨V, hV⟩ : ∃ V, U.sdiv a b = V := ⟨_, rfl⟩
  rw [hV] at HD ⊢
  clear ha hb hd hV
  go_enter Tryz.func6, Tryz.ntmps6
  go_wp2_with (go_at_call 19; (with_reducible refine HD.out.mono ?_); rintro e _ ⟨rfl, rfl⟩)
  go_ret2
  exact ⟨rfl, rfl⟩
theorem ref_mod (a b : Nat) (c : Int) (w : World) (ha : a < 18446744073709551616) (hb : b < 18446744073709551616) :
    Calls Tryz.prog 6 #[.int .i64 6, .int .u64 a, .int .u64 b, .int .u64 c] w fun e w' => e = .returned (.tuple #[.int .u64 (U.mod a b), .int .i64 0]) ∧ w = w' := by
  have hd : Calls Tryz.prog 19 #[.int .i64 6, .int .u64 a, .int .u64 b] w fun e w' => e = .returned (.int .u64 (U.mod a b)) ∧ w = w' := by
    rcases Nat.eq_zero_or_pos b with h | h
    · subst h
      have e : U.mod (a : Int) ((0 : Nat) : Int) = 0 := by unfold U.mod; exact if_pos rfl
      rw [e]
      exact divided_zero 6 a w
    · have e : U.mod a b = ((a % b : Nat) : Int) := by unfold U.mod; rw [if_neg (by omega)]; rfl
      rw [e]
      exact divided_6 a b w ha h hb
  have HD := Lib.hid hd
  obtain ⟨V, hV⟩ : ∃ V, U.mod a b = V := ⟨_, rfl⟩
  rw [hV] at HD ⊢
  clear ha hb hd hV
  go_enter Tryz.func6, Tryz.ntmps6
  go_wp2_with (go_at_call 19; (with_reducible refine HD.out.mono ?_); rintro e _ ⟨rfl, rfl⟩)
  go_ret2
  exact ⟨rfl, rfl⟩
theorem ref_smod (a b : Nat) (c : Int) (w : World) (ha : a < 18446744073709551616) (hb : b < 18446744073709551616) :
    Calls Tryz.prog 6 #[.int .i64 7, .int .u64 a, .int .u64 b, .int .u64 c] w fun e w' => e = .returned (.tuple #[.int .u64 (U.smod a b), .int .i64 0]) ∧ w = w' := by
  have hd : Calls Tryz.prog 19 #[.int .i64 7, .int .u64 a, .int .u64 b] w fun e w' => e = .returned (.int .u64 (U.smod a b)) ∧ w = w' := by
    rcases Nat.eq_zero_or_pos b with h | h
    · subst h
      have e : U.smod (a : Int) ((0 : Nat) : Int) = 0 := by unfold U.smod; exact if_pos rfl
      rw [e]
      exact divided_zero 7 a w
    · have e : U.smod a b = U.smod a b := rfl
      rw [e]
      exact divided_7 a b w ha h hb
  have HD := Lib.hid hd
  obtain ⟨V, hV⟩ : ∃ V, U.smod a b = V := ⟨_, rfl⟩
  rw [hV] at HD ⊢
  clear ha hb hd hV
  go_enter Tryz.func6, Tryz.ntmps6
  go_wp2_with (go_at_call 19; (with_reducible refine HD.out.mono ?_); rintro e _ ⟨rfl, rfl⟩)
  go_ret2
  exact ⟨rfl, rfl⟩
theorem ref_nsext (a b : Nat) (c : Int) (w : World) (ha : a < 18446744073709551616) (hb : b < 18446744073709551616) :
    Calls Tryz.prog 6 #[.int .i64 11, .int .u64 a, .int .u64 b, .int .u64 c] w fun e w' => e = .returned (.tuple #[.int .u64 (Dv.nsext a b : Nat), .int .i64 0]) ∧ w = w' := by
  have HD := Lib.hid (turned_11 a b w ha hb)
  obtain ⟨V, hV⟩ : ∃ V, Dv.nsext a b = V := ⟨_, rfl⟩
  rw [hV] at HD ⊢
  clear ha hb hV
  go_enter Tryz.func6, Tryz.ntmps6
  go_wp2_with (go_at_call 22; (with_reducible refine HD.out.mono ?_); rintro e _ ⟨rfl, rfl⟩)
  go_ret2
  exact ⟨rfl, rfl⟩
theorem ref_nbyte (a b : Nat) (c : Int) (w : World) (ha : a < 18446744073709551616) (hb : b < 18446744073709551616) :
    Calls Tryz.prog 6 #[.int .i64 12, .int .u64 a, .int .u64 b, .int .u64 c] w fun e w' => e = .returned (.tuple #[.int .u64 (Dv.nbyte a b : Nat), .int .i64 0]) ∧ w = w' := by
  have HD := Lib.hid (turned_12 a b w ha hb)
  obtain ⟨V, hV⟩ : ∃ V, Dv.nbyte a b = V := ⟨_, rfl⟩
  rw [hV] at HD ⊢
  clear ha hb hV
  go_enter Tryz.func6, Tryz.ntmps6
  go_wp2_with (go_at_call 22; (with_reducible refine HD.out.mono ?_); rintro e _ ⟨rfl, rfl⟩)
  go_ret2
  exact ⟨rfl, rfl⟩
theorem ref_nshl (a b : Nat) (c : Int) (w : World) (ha : a < 18446744073709551616) (hb : b < 18446744073709551616) :
    Calls Tryz.prog 6 #[.int .i64 13, .int .u64 a, .int .u64 b, .int .u64 c] w fun e w' => e = .returned (.tuple #[.int .u64 (Dv.nshl a b : Nat), .int .i64 0]) ∧ w = w' := by
  have HD := Lib.hid (turned_13 a b w ha hb)
  obtain ⟨V, hV⟩ : ∃ V, Dv.nshl a b = V := ⟨_, rfl⟩
  rw [hV] at HD ⊢
  clear ha hb hV
  go_enter Tryz.func6, Tryz.ntmps6
  go_wp2_with (go_at_call 22; (with_reducible refine HD.out.mono ?_); rintro e _ ⟨rfl, rfl⟩)
  go_ret2
  exact ⟨rfl, rfl⟩
theorem ref_nshr (a b : Nat) (c : Int) (w : World) (ha : a < 18446744073709551616) (hb : b < 18446744073709551616) :
    Calls Tryz.prog 6 #[.int .i64 14, .int .u64 a, .int .u64 b, .int .u64 c] w fun e w' => e = .returned (.tuple #[.int .u64 (Dv.nshr a b : Nat), .int .i64 0]) ∧ w = w' := by
  have HD := Lib.hid (turned_14 a b w ha hb)
  obtain ⟨V, hV⟩ : ∃ V, Dv.nshr a b = V := ⟨_, rfl⟩
  rw [hV] at HD ⊢
  clear ha hb hV
  go_enter Tryz.func6, Tryz.ntmps6
  go_wp2_with (go_at_call 22; (with_reducible refine HD.out.mono ?_); rintro e _ ⟨rfl, rfl⟩)
  go_ret2
  exact ⟨rfl, rfl⟩
theorem ref_nsar (a b : Nat) (c : Int) (w : World) (ha : a < 18446744073709551616) (hb : b < 18446744073709551616) :
    Calls Tryz.prog 6 #[.int .i64 15, .int .u64 a, .int .u64 b, .int .u64 c] w fun e w' => e = .returned (.tuple #[.int .u64 (Dv.nsar a b : Nat), .int .i64 0]) ∧ w = w' := by
  have HD := Lib.hid (turned_15 a b w ha hb)
  obtain ⟨V, hV⟩ : ∃ V, Dv.nsar a b = V := ⟨_, rfl⟩
  rw [hV] at HD ⊢
  clear ha hb hV
  go_enter Tryz.func6, Tryz.ntmps6
  go_wp2_with (go_at_call 22; (with_reducible refine HD.out.mono ?_); rintro e _ ⟨rfl, rfl⟩)
  go_ret2
  exact ⟨rfl, rfl⟩
end W1
end Go.Proofs.YtcgpdijpppcbiaaGreatDoor
namespace Go.Proofs.YtcgpdijpppcbiaaGreatDoor
open Go.RowKit
set_option linter.unusedVariables false
namespace W1
theorem one_any (p : Bool) (w : World) : Calls Tryz.prog 20 #[.bool p] w fun e w' => e = .returned (.int .u64 (if p then 1 else 0)) ∧ w = w' := by
  cases p
  · go_enter Tryz.func20, Tryz.ntmps20
    go_wp2
    go_ret
    exact ⟨rfl, rfl⟩
  · go_enter Tryz.func20, Tryz.ntmps20
    go_wp2
    go_ret
    exact ⟨rfl, rfl⟩
set_option maxRecDepth 100000 in
theorem ref_mod8 (a b : Int) (w : World) (ha : 0 ≤ a ∧ a ≤ 18446744073709551615) (hb : 0 ≤ b ∧ b ≤ 18446744073709551615) :
    Calls Tryz.prog 6 #[.int .i64 8, .int .u64 a, .int .u64 b, .int .u64 0] w fun e w' => e = .returned (.tuple #[.int .u64 0, .int .i64 0]) ∧ w = w' := by
  go_enter Tryz.func6, Tryz.ntmps6
  go_wp2_with fail
  go_ret2
  exact ⟨rfl, rfl⟩
set_option maxRecDepth 100000 in
theorem ref_mod9 (a b : Int) (w : World) (ha : 0 ≤ a ∧ a ≤ 18446744073709551615) (hb : 0 ≤ b ∧ b ≤ 18446744073709551615) :
    Calls Tryz.prog 6 #[.int .i64 9, .int .u64 a, .int .u64 b, .int .u64 0] w fun e w' => e = .returned (.tuple #[.int .u64 0, .int .i64 0]) ∧ w = w' := by
  go_enter Tryz.func6, Tryz.ntmps6
  go_wp2_with fail
  go_ret2
  exact ⟨rfl, rfl⟩
theorem ref_addmod (a b c : Nat) (w : World) (ha : a < 18446744073709551616) (hb : b < 18446744073709551616) (hc : c < 18446744073709551616) (hc0 : 0 < c) :
    Calls Tryz.prog 6 #[.int .i64 8, .int .u64 a, .int .u64 b, .int .u64 c] w fun e w' => e = .returned (.tuple #[.int .u64 (((a + b) % c : Nat) : Int), .int .i64 0]) ∧ w = w' := by
  have HW := Lib.hid (refWide_any a b w ha hb)
  obtain ⟨H, hH⟩ : ∃ H, a * b / 18446744073709551616 = H := ⟨_, rfl⟩
  obtain ⟨Lw, hLw⟩ : ∃ H, a * b % 18446744073709551616 = H := ⟨_, rfl⟩
  rw [hH, hLw] at HW
  obtain ⟨s, hs⟩ : ∃ s : Nat, IntKind.u64.wrap ((a : Int) + b) = (s : Int) := ⟨(a + b) % 18446744073709551616, by rw [IntKind.wrap_u64]; omega⟩
  have hs2 : s = (a + b) % 18446744073709551616 := by rw [IntKind.wrap_u64] at hs; omega
  have hz : ((c : Int) == 0) = false := by simp; omega
  by_cases hlt : s < a
  case' pos =>
    have hd : decide (s < a) = true := by simpa using hlt
    have hr := refRest_any 1 s c w (by decide) (by omega) hc0 hc
    rw [show 1 * 18446744073709551616 + s = a + b by omega] at hr
  case' neg =>
    have hd : decide (s < a) = false := by rw [decide_eq_false_iff_not]; exact hlt
    have hr := refRest_any 0 s c w (by decide) (by omega) hc0 hc
    rw [show 0 * 18446744073709551616 + s = a + b by omega] at hr
  all_goals
    obtain ⟨V, hV⟩ : ∃ V, (a + b) % c = V := ⟨_, rfl⟩
    obtain ⟨Q, hQ⟩ : ∃ V, (a + b) / c % 18446744073709551616 = V := ⟨_, rfl⟩
    rw [hV, hQ] at hr
    rw [hV]
    simp only [Int.natCast_zero, Int.natCast_one] at hr
    have HR := Lib.hid hr
    clear ha hb hc hc0 hH hLw hs2 hr hV hQ hlt
    go_enter Tryz.func6, Tryz.ntmps6
    go_wp2_with (first
      | (go_at_call 18; (with_reducible refine HW.out.mono ?_); rintro e _ ⟨rfl, rfl⟩)
      | (go_at_call 20; refine (one_any _ _).mono ?_; rintro e _ ⟨rfl, rfl⟩)
      | (go_at_call 21; (with_reducible refine HR.out.mono ?_); rintro e _ ⟨rfl, rfl⟩))
    go_ret2
    exact ⟨rfl, rfl⟩
theorem ref_mulmod (a b c : Nat) (w : World) (ha : a < 18446744073709551616) (hb : b < 18446744073709551616) (hc : c < 18446744073709551616) (hc0 : 0 < c) :
    Calls Tryz.prog 6 #[.int .i64 9, .int .u64 a, .int .u64 b, .int .u64 c] w fun e w' => e = .returned (.tuple #[.int .u64 ((a * b % c : Nat) : Int), .int .i64 0]) ∧ w = w' := by
  have HW := Lib.hid (refWide_any a b w ha hb)
  have hHb : a * b / 18446744073709551616 < 18446744073709551616 := Nat.div_lt_of_lt_mul (Nat.mul_lt_mul'' ha hb)
  have hLb : a * b % 18446744073709551616 < 18446744073709551616 := Nat.mod_lt _ (by decide)
  have hHL := Nat.div_add_mod' (a * b) 18446744073709551616
  obtain ⟨H, hH⟩ : ∃ H, a * b / 18446744073709551616 = H := ⟨_, rfl⟩
  obtain ⟨Lw, hLw⟩ : ∃ H, a * b % 18446744073709551616 = H := ⟨_, rfl⟩
  rw [hH, hLw] at HW hHL
  rw [hH] at hHb
  rw [hLw] at hLb
  have hz : ((c : Int) == 0) = false := by simp; omega
  have hr := refRest_any H Lw c w hHb hLb hc0 hc
  rw [hHL] at hr
  obtain ⟨V, hV⟩ : ∃ V, a * b % c = V := ⟨_, rfl⟩
  obtain ⟨Q, hQ⟩ : ∃ V, a * b / c % 18446744073709551616 = V := ⟨_, rfl⟩
  rw [hV, hQ] at hr
  rw [hV]
  have HR := Lib.hid hr
  clear ha hb hc hc0 hHb hLb hHL hH hLw hr hV hQ
  go_enter Tryz.func6, Tryz.ntmps6
  go_wp2_with (first
    | (go_at_call 18; (with_reducible refine HW.out.mono ?_); rintro e _ ⟨rfl, rfl⟩)
    | (go_at_call 21; (with_reducible refine HR.out.mono ?_); rintro e _ ⟨rfl, rfl⟩))
  go_ret2
  exact ⟨rfl, rfl⟩
theorem refArgs_any (op : Int) (w : World) : Calls Tryz.prog 5 #[.int .i64 op] w fun e w' => e = .returned (.tuple #[.int .i64 (argN op), .int .i64 (argE op)]) ∧ w = w' := by
  unfold argN argE
  by_cases h0 : op < 1
  · rw [if_pos (.inl h0), if_pos (.inl h0)]
    go_enter Tryz.func5, Tryz.ntmps5
    go_wp2
    go_ret2
    exact ⟨rfl, rfl⟩
  by_cases h1 : 25 < op
  · rw [if_pos (.inr h1), if_pos (.inr h1)]
    have h2 : 1 ≤ op := by omega
    clear h0
    go_enter Tryz.func5, Tryz.ntmps5
    go_wp2
    go_ret2
    exact ⟨rfl, rfl⟩
  have hx : ¬ (op < 1 ∨ 25 < op) := by omega
  rw [if_neg hx, if_neg hx]
  have l1 : 1 ≤ op := by omega
  have l2 : op ≤ 25 := by omega
  clear h0 h1 hx
  by_cases h8 : op = 8
  · subst h8; go_enter Tryz.func5, Tryz.ntmps5; go_wp2; go_ret2; exact ⟨rfl, rfl⟩
  by_cases h9 : op = 9
  · subst h9; go_enter Tryz.func5, Tryz.ntmps5; go_wp2; go_ret2; exact ⟨rfl, rfl⟩
  by_cases h21 : op = 21
  · subst h21; go_enter Tryz.func5, Tryz.ntmps5; go_wp2; go_ret2; exact ⟨rfl, rfl⟩
  by_cases h25 : op = 25
  · subst h25; go_enter Tryz.func5, Tryz.ntmps5; go_wp2; go_ret2; exact ⟨rfl, rfl⟩
  rw [if_neg (by omega), if_neg (by omega)]
  have b8 : (op == 8) = false := by simpa using h8
  have b9 : (op == 9) = false := by simpa using h9
  have b21 : (op == 21) = false := by simpa using h21
  have b25 : (op == 25) = false := by simpa using h25
  clear h8 h9 h21 h25
  go_enter Tryz.func5, Tryz.ntmps5
  go_wp2
  go_ret2
  exact ⟨rfl, rfl⟩
end W1
end Go.Proofs.YtcgpdijpppcbiaaGreatDoor
