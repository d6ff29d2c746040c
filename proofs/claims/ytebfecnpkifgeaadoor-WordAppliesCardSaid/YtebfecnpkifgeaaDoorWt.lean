/-
  mootref01.turned: shifts, bytes, signs bit by bit. Own work.
-/
import Derived.Test.YtebfecnpkifgeaaDoorWdd
namespace Go.Proofs.YtebfecnpkifgeaaDoor
open Go.RowKit
set_option linter.unusedVariables false
namespace W1
theorem run_min2 {P : Program} {ts : Array TypeId} {t : TypeId} {k : IntKind} (a b : Int) (w : World) :
    (Builtin.min_ ts t #[.int k a, .int k b]).run P w = .ok (.int k (min a b)) w := by
  have e : (if b < a then b else a) = min a b := by split <;> omega
  simp [Builtin.min_, Builtin.min2, e]
/-- The bit at a place, as the walk asks for it. -/
theorem bit_at (b F : Nat) (hb : b < 18446744073709551616) : Go.bits .and .u64 ((b : Int) / 2 ^ F) 1 = if b.testBit F then 1 else 0 := by
  have hd1 : (b : Int) / 2 ^ F = ((b / 2 ^ F : Nat) : Int) := by rw [Int.natCast_ediv, Int.natCast_pow]; rfl
  have hb2 : b / 2 ^ F < 18446744073709551616 := Nat.lt_of_le_of_lt (Nat.div_le_self _ _) hb
  rw [hd1, and_one_u64 _ (Int.natCast_nonneg _) (nat_le_u64 hb2), Nat.testBit_eq_decide_div_mod_eq]
  generalize b / 2 ^ F = c
  by_cases h : c % 2 = 1
  · simp [h]; omega
  · simp [h]; omega
/-- The next bit is laid. -/
theorem or_pow {T k t p : Nat} (hk : k < 64) (ht : T % 2 ^ k = t) (hp : 2 ^ k = p) : Go.bits .or .u64 (t : Int) (p : Int) = ((t + p : Nat) : Int) := by
  have h1 : T % 2 ^ k < 2 ^ k := Nat.mod_lt _ (Nat.pos_of_ne_zero (by simp))
  have h2 : 2 ^ k ≤ 2 ^ 63 := Nat.pow_le_pow_right (by decide) (by omega)
  subst ht hp
  rw [bits_or_u64_nat _ _ (by omega) (by omega), Dv.or_add h1]
theorem step_on {T k t p : Nat} (ht : T % 2 ^ k = t) (hp : 2 ^ k = p) (h : T.testBit k = true) : T % 2 ^ (k + 1) = t + p := by rw [Dv.mod_succ, h, ht, hp]; rfl
theorem step_off {T k t : Nat} (ht : T % 2 ^ k = t) (h : T.testBit k = false) : T % 2 ^ (k + 1) = t := by rw [Dv.mod_succ, h, ht]; rfl
theorem pow_wrap {k p : Nat} (hk : k < 64) (hp : 2 ^ k = p) : IntKind.u64.wrap ((2 : Int) ^ k) = (p : Int) ∧ p ≤ 9223372036854775808 := by
  have h2 : 2 ^ k ≤ 2 ^ 63 := Nat.pow_le_pow_right (by decide) (by omega)
  have e : ((2 ^ k : Nat) : Int) = (2 : Int) ^ k := by rw [Int.natCast_pow]; rfl
  rw [← e, hp, IntKind.wrap_u64]
  omega
theorem nsar_lt {a b : Nat} (hb : b < 2 ^ 64) : Dv.nsar a b < 2 ^ 64 := by
  unfold Dv.nsar
  split
  · exact Nat.lt_of_le_of_lt (Nat.div_le_self _ _) hb
  · generalize (2 ^ 64 - (b + 1)) / 2 ^ min a 64 = c; omega
theorem nsext_lt {a b : Nat} (hb : b < 2 ^ 64) : Dv.nsext a b < 2 ^ 64 := by
  unfold Dv.nsext
  split
  · exact hb
  · exact nsar_lt (Dv.nshl_lt _ _)
theorem nbyte_lt {a b : Nat} : Dv.nbyte a b < 2 ^ 64 := by
  unfold Dv.nbyte
  split
  · decide
  · exact Nat.lt_of_lt_of_le (Nat.mod_lt _ (by decide)) (by decide)
set_option maxHeartbeats 1000000 in
theorem turned_11 (a b : Nat) (w : World) (ha : a < 18446744073709551616) (hb : b < 18446744073709551616) :
    Calls Tryd.prog 27 #[.int .i64 11, .int .u64 a, .int .u64 b] w fun e w' => e = .returned (.int .u64 (Dv.nsext a b : Nat)) ∧ w = w' := by
  have HB : Hid (b < 2 ^ 64) := Lib.hid hb
  have HBIT : Hid (∀ k, k < 64 → (Dv.nsext a b).testBit k = _) := Lib.hid (fun k hk64 => Dv.nsext_bit hk64)
  have hb64 : b < 2 ^ 64 := hb
  have hlt := nsext_lt (a := a) hb64
  have HLT := Lib.hid (Nat.mod_eq_of_lt hlt)
  have haI : (a : Int) ≤ 18446744073709551615 := by omega
  have hbI : (b : Int) ≤ 18446744073709551615 := by omega
  have h0 : (Dv.nsext a b) % 2 ^ 0 = 0 := Nat.mod_one _
  have H0 := Lib.hid h0
  have mn := fun ts t k a b w => run_min2 (P := Tryd.prog) (ts := ts) (t := t) (k := k) a b w
  clear ha hb hlt h0 hb64
  go_enter Tryd.func27, Tryd.ntmps27
  go_wp2
  go_loop [7, 8] (fun o i => ∃ k t : Nat, k ≤ 64 ∧ i = .int .u64 k ∧ Hid (Dv.nsext a b % 2 ^ k = t) ∧ o = .int .u64 (t : Int)) (fun _ i => (64 - intOf i).toNat)
  case atStart => exact ⟨0, 0, by decide, rfl, H0, rfl⟩
  case round =>
    obtain ⟨k, t, hk, rfl, HT, rfl⟩ := hrel
    by_cases hk64 : k < 64
    · have hkI : (k : Int) < 64 := by omega
      obtain ⟨p, hpp⟩ : ∃ p, 2 ^ k = p := ⟨_, rfl⟩
      have HPP := Lib.hid hpp
      obtain ⟨hp, hpb⟩ := pow_wrap hk64 hpp
      have ho := or_pow hk64 HT.out hpp
      have htb : (t : Int) ≤ 18446744073709551615 := by
        have h1 := HT.out
        have h2 : Dv.nsext a b % 2 ^ k < 2 ^ k := Nat.mod_lt _ (Nat.pos_of_ne_zero (by simp))
        omega
      have hpI : (p : Int) ≤ 9223372036854775808 := by omega
      obtain ⟨s, hs⟩ : ∃ s, t + p = s := ⟨_, rfl⟩
      rw [hs] at ho
      have HSS := Lib.hid hs
      clear hpp hpb hs
      by_cases h8 : (a : Int) < 8
      · have hbit : (Dv.nsext a b).testBit k = b.testBit (min k (8 * a + 7)) := by rw [HBIT.out k hk64, if_pos (by omega)]
        obtain ⟨F, hF⟩ : ∃ F, min k (8 * a + 7) = F := ⟨_, rfl⟩
        rw [hF] at hbit
        have hFI : min (k : Int) (8 * (a : Int) + 7) = (F : Int) := by omega
        have hF64 : (F : Int) < 64 := by omega
        have a1 := bit_at b F HB.out
        cases hbt : b.testBit F with
        | true =>
          rw [hbt] at hbit a1
          simp only [if_true] at a1
          have HS := Lib.hid ((step_on HT.out HPP.out hbit).trans HSS.out)
          clear hbit hbt hF
          go_wp2
          go_round
          case rel => exact ⟨k + 1, _, by omega, by go_num, HS, rfl⟩
          case measure => first | (simp [intOf]; done) | (simp [intOf]; omega)
        | false =>
          rw [hbt] at hbit a1
          simp only [if_false, Bool.false_eq_true] at a1
          have HS := Lib.hid (step_off HT.out hbit)
          clear hbit hbt hF
          go_wp2
          go_round
          case rel => exact ⟨k + 1, _, by omega, by go_num, HS, rfl⟩
          case measure => first | (simp [intOf]; done) | (simp [intOf]; omega)
      · have hbit : (Dv.nsext a b).testBit k = b.testBit k := by rw [HBIT.out k hk64, if_neg (by omega)]
        have hd8 : decide ((a : Int) < 8) = false := by rw [decide_eq_false_iff_not]; exact h8
        have a1 := bit_at b k HB.out
        cases hbt : b.testBit k with
        | true =>
          rw [hbt] at hbit a1
          simp only [if_true] at a1
          have HS := Lib.hid ((step_on HT.out HPP.out hbit).trans HSS.out)
          clear hbit hbt h8
          go_wp2
          go_round
          case rel => exact ⟨k + 1, _, by omega, by go_num, HS, rfl⟩
          case measure => first | (simp [intOf]; done) | (simp [intOf]; omega)
        | false =>
          rw [hbt] at hbit a1
          simp only [if_false, Bool.false_eq_true] at a1
          have HS := Lib.hid (step_off HT.out hbit)
          clear hbit hbt h8
          go_wp2
          go_round
          case rel => exact ⟨k + 1, _, by omega, by go_num, HS, rfl⟩
          case measure => first | (simp [intOf]; done) | (simp [intOf]; omega)
    · obtain rfl : k = 64 := by omega
      go_wp2
      go_ret
      rw [show Dv.nsext a b = t by rw [← HLT.out, HT.out]]
      exact ⟨rfl, rfl⟩
set_option maxHeartbeats 1000000 in
theorem turned_12 (a b : Nat) (w : World) (ha : a < 18446744073709551616) (hb : b < 18446744073709551616) :
    Calls Tryd.prog 27 #[.int .i64 12, .int .u64 a, .int .u64 b] w fun e w' => e = .returned (.int .u64 (Dv.nbyte a b : Nat)) ∧ w = w' := by
  have HB : Hid (b < 2 ^ 64) := Lib.hid hb
  have HBIT : Hid (∀ k, k < 64 → (Dv.nbyte a b).testBit k = _) := Lib.hid (fun k hk64 => Dv.nbyte_bit)
  have hb64 : b < 2 ^ 64 := hb
  have hlt := nbyte_lt (a := a) (b := b)
  have HLT := Lib.hid (Nat.mod_eq_of_lt hlt)
  have haI : (a : Int) ≤ 18446744073709551615 := by omega
  have hbI : (b : Int) ≤ 18446744073709551615 := by omega
  have h0 : (Dv.nbyte a b) % 2 ^ 0 = 0 := Nat.mod_one _
  have H0 := Lib.hid h0
  have mn := fun ts t k a b w => run_min2 (P := Tryd.prog) (ts := ts) (t := t) (k := k) a b w
  clear ha hb hlt h0 hb64
  go_enter Tryd.func27, Tryd.ntmps27
  go_wp2
  go_loop [7, 8] (fun o i => ∃ k t : Nat, k ≤ 64 ∧ i = .int .u64 k ∧ Hid (Dv.nbyte a b % 2 ^ k = t) ∧ o = .int .u64 (t : Int)) (fun _ i => (64 - intOf i).toNat)
  case atStart => exact ⟨0, 0, by decide, rfl, H0, rfl⟩
  case round =>
    obtain ⟨k, t, hk, rfl, HT, rfl⟩ := hrel
    by_cases hk64 : k < 64
    · have hkI : (k : Int) < 64 := by omega
      obtain ⟨p, hpp⟩ : ∃ p, 2 ^ k = p := ⟨_, rfl⟩
      have HPP := Lib.hid hpp
      obtain ⟨hp, hpb⟩ := pow_wrap hk64 hpp
      have ho := or_pow hk64 HT.out hpp
      have htb : (t : Int) ≤ 18446744073709551615 := by
        have h1 := HT.out
        have h2 : Dv.nbyte a b % 2 ^ k < 2 ^ k := Nat.mod_lt _ (Nat.pos_of_ne_zero (by simp))
        omega
      have hpI : (p : Int) ≤ 9223372036854775808 := by omega
      obtain ⟨s, hs⟩ : ∃ s, t + p = s := ⟨_, rfl⟩
      rw [hs] at ho
      have HSS := Lib.hid hs
      clear hpp hpb hs
      obtain ⟨m, hm⟩ : ∃ m : Nat, min a 7 = m := ⟨_, rfl⟩
      have hmI : min (a : Int) 7 = (m : Int) := by omega
      have hm7 : (m : Int) ≤ 7 := by omega
      by_cases h8 : (a : Int) < 8
      · by_cases k8 : (k : Int) < 8
        · have hbit : (Dv.nbyte a b).testBit k = b.testBit (56 - 8 * m + k) := by rw [HBIT.out k hk64, hm]; simp; omega
          obtain ⟨F, hF⟩ : ∃ F, 56 - 8 * m + k = F := ⟨_, rfl⟩
          rw [hF] at hbit
          have hFI : 56 - 8 * (m : Int) + (k : Int) = (F : Int) := by omega
          have hF64 : (F : Int) < 64 := by omega
          have a1 := bit_at b F HB.out
          cases hbt : b.testBit F with
          | true =>
            rw [hbt] at hbit a1
            simp only [if_true] at a1
            have HS := Lib.hid ((step_on HT.out HPP.out hbit).trans HSS.out)
            clear hbit hbt hF hm
            go_wp2
            go_round
            case rel => exact ⟨k + 1, _, by omega, by go_num, HS, rfl⟩
            case measure => first | (simp [intOf]; done) | (simp [intOf]; omega)
          | false =>
            rw [hbt] at hbit a1
            simp only [if_false, Bool.false_eq_true] at a1
            have HS := Lib.hid (step_off HT.out hbit)
            clear hbit hbt hF hm
            go_wp2
            go_round
            case rel => exact ⟨k + 1, _, by omega, by go_num, HS, rfl⟩
            case measure => first | (simp [intOf]; done) | (simp [intOf]; omega)
        · have hbit : (Dv.nbyte a b).testBit k = false := by rw [HBIT.out k hk64]; simp; omega
          have hd8 : decide ((k : Int) < 8) = false := by rw [decide_eq_false_iff_not]; exact k8
          have HS := Lib.hid (step_off HT.out hbit)
          clear hbit k8 hm
          go_wp2
          go_round
          case rel => exact ⟨k + 1, _, by omega, by go_num, HS, rfl⟩
          case measure => first | (simp [intOf]; done) | (simp [intOf]; omega)
      · by_cases k8 : (k : Int) < 8
        · have hbit : (Dv.nbyte a b).testBit k = false := by rw [HBIT.out k hk64]; simp; omega
          have hd8 : decide ((a : Int) < 8) = false := by rw [decide_eq_false_iff_not]; exact h8
          have HS := Lib.hid (step_off HT.out hbit)
          clear hbit h8 hm
          go_wp2
          go_round
          case rel => exact ⟨k + 1, _, by omega, by go_num, HS, rfl⟩
          case measure => first | (simp [intOf]; done) | (simp [intOf]; omega)
        · have hbit : (Dv.nbyte a b).testBit k = false := by rw [HBIT.out k hk64]; simp; omega
          have hd8 : decide ((k : Int) < 8) = false := by rw [decide_eq_false_iff_not]; exact k8
          have HS := Lib.hid (step_off HT.out hbit)
          clear hbit k8 hm h8
          go_wp2
          go_round
          case rel => exact ⟨k + 1, _, by omega, by go_num, HS, rfl⟩
          case measure => first | (simp [intOf]; done) | (simp [intOf]; omega)
    · obtain rfl : k = 64 := by omega
      go_wp2
      go_ret
      rw [show Dv.nbyte a b = t by rw [← HLT.out, HT.out]]
      exact ⟨rfl, rfl⟩
set_option maxHeartbeats 1000000 in
theorem turned_13 (a b : Nat) (w : World) (ha : a < 18446744073709551616) (hb : b < 18446744073709551616) :
    Calls Tryd.prog 27 #[.int .i64 13, .int .u64 a, .int .u64 b] w fun e w' => e = .returned (.int .u64 (Dv.nshl a b : Nat)) ∧ w = w' := by
  have HB : Hid (b < 2 ^ 64) := Lib.hid hb
  have HBIT : Hid (∀ k, k < 64 → (Dv.nshl a b).testBit k = _) := Lib.hid (fun k hk64 => Dv.nshl_bit hk64)
  have hb64 : b < 2 ^ 64 := hb
  have hlt := Dv.nshl_lt a b
  have HLT := Lib.hid (Nat.mod_eq_of_lt hlt)
  have haI : (a : Int) ≤ 18446744073709551615 := by omega
  have hbI : (b : Int) ≤ 18446744073709551615 := by omega
  have h0 : (Dv.nshl a b) % 2 ^ 0 = 0 := Nat.mod_one _
  have H0 := Lib.hid h0
  have mn := fun ts t k a b w => run_min2 (P := Tryd.prog) (ts := ts) (t := t) (k := k) a b w
  clear ha hb hlt h0 hb64
  go_enter Tryd.func27, Tryd.ntmps27
  go_wp2
  go_loop [7, 8] (fun o i => ∃ k t : Nat, k ≤ 64 ∧ i = .int .u64 k ∧ Hid (Dv.nshl a b % 2 ^ k = t) ∧ o = .int .u64 (t : Int)) (fun _ i => (64 - intOf i).toNat)
  case atStart => exact ⟨0, 0, by decide, rfl, H0, rfl⟩
  case round =>
    obtain ⟨k, t, hk, rfl, HT, rfl⟩ := hrel
    by_cases hk64 : k < 64
    · have hkI : (k : Int) < 64 := by omega
      obtain ⟨p, hpp⟩ : ∃ p, 2 ^ k = p := ⟨_, rfl⟩
      have HPP := Lib.hid hpp
      obtain ⟨hp, hpb⟩ := pow_wrap hk64 hpp
      have ho := or_pow hk64 HT.out hpp
      have htb : (t : Int) ≤ 18446744073709551615 := by
        have h1 := HT.out
        have h2 : Dv.nshl a b % 2 ^ k < 2 ^ k := Nat.mod_lt _ (Nat.pos_of_ne_zero (by simp))
        omega
      have hpI : (p : Int) ≤ 9223372036854775808 := by omega
      obtain ⟨s, hs⟩ : ∃ s, t + p = s := ⟨_, rfl⟩
      rw [hs] at ho
      have HSS := Lib.hid hs
      clear hpp hpb hs
      by_cases h8 : a ≤ k
      · have hbit : (Dv.nshl a b).testBit k = b.testBit (k - a) := by rw [HBIT.out k hk64]; simp [h8]
        obtain ⟨F, hF⟩ : ∃ F, k - a = F := ⟨_, rfl⟩
        rw [hF] at hbit
        have hFI : (k : Int) - (a : Int) = (F : Int) := by omega
        have hd8 : decide (a ≤ k) = true := by simpa using h8
        have hF64 : (F : Int) < 64 := by omega
        have a1 := bit_at b F HB.out
        cases hbt : b.testBit F with
        | true =>
          rw [hbt] at hbit a1
          simp only [if_true] at a1
          have HS := Lib.hid ((step_on HT.out HPP.out hbit).trans HSS.out)
          clear hbit hbt hF
          go_wp2
          go_round
          case rel => exact ⟨k + 1, _, by omega, by go_num, HS, rfl⟩
          case measure => first | (simp [intOf]; done) | (simp [intOf]; omega)
        | false =>
          rw [hbt] at hbit a1
          simp only [if_false, Bool.false_eq_true] at a1
          have HS := Lib.hid (step_off HT.out hbit)
          clear hbit hbt hF
          go_wp2
          go_round
          case rel => exact ⟨k + 1, _, by omega, by go_num, HS, rfl⟩
          case measure => first | (simp [intOf]; done) | (simp [intOf]; omega)
      · have hbit : (Dv.nshl a b).testBit k = false := by rw [HBIT.out k hk64]; simp [h8]
        have hd8 : decide (a ≤ k) = false := by rw [decide_eq_false_iff_not]; exact h8
        have HS := Lib.hid (step_off HT.out hbit)
        clear hbit h8
        go_wp2
        go_round
        case rel => exact ⟨k + 1, _, by omega, by go_num, HS, rfl⟩
        case measure => first | (simp [intOf]; done) | (simp [intOf]; omega)
    · obtain rfl : k = 64 := by omega
      go_wp2
      go_ret
      rw [show Dv.nshl a b = t by rw [← HLT.out, HT.out]]
      exact ⟨rfl, rfl⟩
set_option maxHeartbeats 1000000 in
theorem turned_14 (a b : Nat) (w : World) (ha : a < 18446744073709551616) (hb : b < 18446744073709551616) :
    Calls Tryd.prog 27 #[.int .i64 14, .int .u64 a, .int .u64 b] w fun e w' => e = .returned (.int .u64 (Dv.nshr a b : Nat)) ∧ w = w' := by
  have HB : Hid (b < 2 ^ 64) := Lib.hid hb
  have HBIT : Hid (∀ k, k < 64 → (Dv.nshr a b).testBit k = _) := Lib.hid (fun k hk64 => Dv.nshr_bit hb hk64)
  have hb64 : b < 2 ^ 64 := hb
  have hlt := (Nat.lt_of_le_of_lt (Nat.div_le_self _ _) hb64 : Dv.nshr a b < 2 ^ 64)
  have HLT := Lib.hid (Nat.mod_eq_of_lt hlt)
  have haI : (a : Int) ≤ 18446744073709551615 := by omega
  have hbI : (b : Int) ≤ 18446744073709551615 := by omega
  have h0 : (Dv.nshr a b) % 2 ^ 0 = 0 := Nat.mod_one _
  have H0 := Lib.hid h0
  have mn := fun ts t k a b w => run_min2 (P := Tryd.prog) (ts := ts) (t := t) (k := k) a b w
  clear ha hb hlt h0 hb64
  go_enter Tryd.func27, Tryd.ntmps27
  go_wp2
  go_loop [7, 8] (fun o i => ∃ k t : Nat, k ≤ 64 ∧ i = .int .u64 k ∧ Hid (Dv.nshr a b % 2 ^ k = t) ∧ o = .int .u64 (t : Int)) (fun _ i => (64 - intOf i).toNat)
  case atStart => exact ⟨0, 0, by decide, rfl, H0, rfl⟩
  case round =>
    obtain ⟨k, t, hk, rfl, HT, rfl⟩ := hrel
    by_cases hk64 : k < 64
    · have hkI : (k : Int) < 64 := by omega
      obtain ⟨p, hpp⟩ : ∃ p, 2 ^ k = p := ⟨_, rfl⟩
      have HPP := Lib.hid hpp
      obtain ⟨hp, hpb⟩ := pow_wrap hk64 hpp
      have ho := or_pow hk64 HT.out hpp
      have htb : (t : Int) ≤ 18446744073709551615 := by
        have h1 := HT.out
        have h2 : Dv.nshr a b % 2 ^ k < 2 ^ k := Nat.mod_lt _ (Nat.pos_of_ne_zero (by simp))
        omega
      have hpI : (p : Int) ≤ 9223372036854775808 := by omega
      obtain ⟨s, hs⟩ : ∃ s, t + p = s := ⟨_, rfl⟩
      rw [hs] at ho
      have HSS := Lib.hid hs
      clear hpp hpb hs
      by_cases h8 : (a : Int) < 64 - (k : Int)
      · have hbit : (Dv.nshr a b).testBit k = b.testBit (k + a) := by rw [HBIT.out k hk64]; simp; omega
        obtain ⟨F, hF⟩ : ∃ F, k + a = F := ⟨_, rfl⟩
        rw [hF] at hbit
        have hFI : (k : Int) + (a : Int) = (F : Int) := by omega
        have hF64 : (F : Int) < 64 := by omega
        have a1 := bit_at b F HB.out
        cases hbt : b.testBit F with
        | true =>
          rw [hbt] at hbit a1
          simp only [if_true] at a1
          have HS := Lib.hid ((step_on HT.out HPP.out hbit).trans HSS.out)
          clear hbit hbt hF
          go_wp2
          go_round
          case rel => exact ⟨k + 1, _, by omega, by go_num, HS, rfl⟩
          case measure => first | (simp [intOf]; done) | (simp [intOf]; omega)
        | false =>
          rw [hbt] at hbit a1
          simp only [if_false, Bool.false_eq_true] at a1
          have HS := Lib.hid (step_off HT.out hbit)
          clear hbit hbt hF
          go_wp2
          go_round
          case rel => exact ⟨k + 1, _, by omega, by go_num, HS, rfl⟩
          case measure => first | (simp [intOf]; done) | (simp [intOf]; omega)
      · have hbit : (Dv.nshr a b).testBit k = false := by rw [HBIT.out k hk64]; simp; omega
        have hd8 : decide ((a : Int) < 64 - (k : Int)) = false := by rw [decide_eq_false_iff_not]; exact h8
        have HS := Lib.hid (step_off HT.out hbit)
        clear hbit h8
        go_wp2
        go_round
        case rel => exact ⟨k + 1, _, by omega, by go_num, HS, rfl⟩
        case measure => first | (simp [intOf]; done) | (simp [intOf]; omega)
    · obtain rfl : k = 64 := by omega
      go_wp2
      go_ret
      rw [show Dv.nshr a b = t by rw [← HLT.out, HT.out]]
      exact ⟨rfl, rfl⟩
set_option maxHeartbeats 1000000 in
theorem turned_15 (a b : Nat) (w : World) (ha : a < 18446744073709551616) (hb : b < 18446744073709551616) :
    Calls Tryd.prog 27 #[.int .i64 15, .int .u64 a, .int .u64 b] w fun e w' => e = .returned (.int .u64 (Dv.nsar a b : Nat)) ∧ w = w' := by
  have HB : Hid (b < 2 ^ 64) := Lib.hid hb
  have HBIT : Hid (∀ k, k < 64 → (Dv.nsar a b).testBit k = _) := Lib.hid (fun k hk64 => Dv.nsar_bit hb hk64)
  have hb64 : b < 2 ^ 64 := hb
  have hlt := nsar_lt (a := a) hb64
  have HLT := Lib.hid (Nat.mod_eq_of_lt hlt)
  have haI : (a : Int) ≤ 18446744073709551615 := by omega
  have hbI : (b : Int) ≤ 18446744073709551615 := by omega
  have h0 : (Dv.nsar a b) % 2 ^ 0 = 0 := Nat.mod_one _
  have H0 := Lib.hid h0
  have mn := fun ts t k a b w => run_min2 (P := Tryd.prog) (ts := ts) (t := t) (k := k) a b w
  clear ha hb hlt h0 hb64
  go_enter Tryd.func27, Tryd.ntmps27
  go_wp2
  go_loop [7, 8] (fun o i => ∃ k t : Nat, k ≤ 64 ∧ i = .int .u64 k ∧ Hid (Dv.nsar a b % 2 ^ k = t) ∧ o = .int .u64 (t : Int)) (fun _ i => (64 - intOf i).toNat)
  case atStart => exact ⟨0, 0, by decide, rfl, H0, rfl⟩
  case round =>
    obtain ⟨k, t, hk, rfl, HT, rfl⟩ := hrel
    by_cases hk64 : k < 64
    · have hkI : (k : Int) < 64 := by omega
      obtain ⟨p, hpp⟩ : ∃ p, 2 ^ k = p := ⟨_, rfl⟩
      have HPP := Lib.hid hpp
      obtain ⟨hp, hpb⟩ := pow_wrap hk64 hpp
      have ho := or_pow hk64 HT.out hpp
      have htb : (t : Int) ≤ 18446744073709551615 := by
        have h1 := HT.out
        have h2 : Dv.nsar a b % 2 ^ k < 2 ^ k := Nat.mod_lt _ (Nat.pos_of_ne_zero (by simp))
        omega
      have hpI : (p : Int) ≤ 9223372036854775808 := by omega
      obtain ⟨s, hs⟩ : ∃ s, t + p = s := ⟨_, rfl⟩
      rw [hs] at ho
      have HSS := Lib.hid hs
      clear hpp hpb hs
      by_cases h8 : (a : Int) < 64 - (k : Int)
      · have hbit : (Dv.nsar a b).testBit k = b.testBit (k + a) := by rw [HBIT.out k hk64]; rw [if_pos (by omega)]
        obtain ⟨F, hF⟩ : ∃ F, k + a = F := ⟨_, rfl⟩
        rw [hF] at hbit
        have hFI : (k : Int) + (a : Int) = (F : Int) := by omega
        have hF64 : (F : Int) < 64 := by omega
        have a1 := bit_at b F HB.out
        cases hbt : b.testBit F with
        | true =>
          rw [hbt] at hbit a1
          simp only [if_true] at a1
          have HS := Lib.hid ((step_on HT.out HPP.out hbit).trans HSS.out)
          clear hbit hbt hF
          go_wp2
          go_round
          case rel => exact ⟨k + 1, _, by omega, by go_num, HS, rfl⟩
          case measure => first | (simp [intOf]; done) | (simp [intOf]; omega)
        | false =>
          rw [hbt] at hbit a1
          simp only [if_false, Bool.false_eq_true] at a1
          have HS := Lib.hid (step_off HT.out hbit)
          clear hbit hbt hF
          go_wp2
          go_round
          case rel => exact ⟨k + 1, _, by omega, by go_num, HS, rfl⟩
          case measure => first | (simp [intOf]; done) | (simp [intOf]; omega)
      · have hbit : (Dv.nsar a b).testBit k = b.testBit 63 := by rw [HBIT.out k hk64, if_neg (by omega)]
        have hd8 : decide ((a : Int) < 64 - (k : Int)) = false := by rw [decide_eq_false_iff_not]; exact h8
        have a1 := bit_at b 63 HB.out
        rw [show (2 : Int) ^ 63 = 9223372036854775808 from by decide] at a1
        cases hbt : b.testBit 63 with
        | true =>
          rw [hbt] at hbit a1
          simp only [if_true] at a1
          have HS := Lib.hid ((step_on HT.out HPP.out hbit).trans HSS.out)
          clear hbit hbt h8
          go_wp2
          go_round
          case rel => exact ⟨k + 1, _, by omega, by go_num, HS, rfl⟩
          case measure => first | (simp [intOf]; done) | (simp [intOf]; omega)
        | false =>
          rw [hbt] at hbit a1
          simp only [if_false, Bool.false_eq_true] at a1
          have HS := Lib.hid (step_off HT.out hbit)
          clear hbit hbt h8
          go_wp2
          go_round
          case rel => exact ⟨k + 1, _, by omega, by go_num, HS, rfl⟩
          case measure => first | (simp [intOf]; done) | (simp [intOf]; omega)
    · obtain rfl : k = 64 := by omega
      go_wp2
      go_ret
      rw [show Dv.nsar a b = t by rw [← HLT.out, HT.out]]
      exact ⟨rfl, rfl⟩
end W1
end Go.Proofs.YtebfecnpkifgeaaDoor
