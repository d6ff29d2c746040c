/-
  math/bits.Div64 (Knuth's division by two digits), Rem64. Own work.
-/
import Derived.Test.YtebfecnpkifgeaaDoorRst
import Derived.Test.YtebfecnpkifgeaaDoorShelf
import Derived.Laws.Bits64b
namespace Go.Proofs.YtebfecnpkifgeaaDoor
open Go.RowKit
set_option linter.unusedVariables false
namespace W1
theorem q_of {U q y1 r : Nat} (h : U = q * y1 + r) (hr : r < y1) : U / y1 = q := by rw [h, Nat.mul_comm, Nat.mul_add_div (by omega), Nat.div_eq_of_lt hr, Nat.add_zero]
theorem and_mask (v : Int) (h0 : 0 ≤ v) (h1 : v ≤ 18446744073709551615) : Go.bits .and .u64 v 4294967295 = v % 4294967296 := by go_bits2
/-- A word and how far it stands below the top. -/
theorem norm_word (y : Nat) (h0 : 0 < y) (h1 : y < 2 ^ 64) : ∃ s : Nat, s ≤ 63 ∧ (64 : Int) - (Lib.bitLen y : Int) = (s : Int) ∧ 2 ^ 63 ≤ y * 2 ^ s ∧ y * 2 ^ s < 2 ^ 64 := by
  have hl := Lib.bitLen_le y 64 (by decide) h1
  have hlow : 0 < Lib.bitLen y := by rw [Lib.bitLen_half y (by omega) h1]; omega
  refine ⟨64 - Lib.bitLen y, by omega, by omega, ?_, ?_⟩
  · rcases Nat.lt_or_ge (y * 2 ^ (64 - Lib.bitLen y)) (2 ^ 63) with h | h
    · exfalso
      have e : 2 ^ 63 = 2 ^ (Lib.bitLen y - 1) * 2 ^ (64 - Lib.bitLen y) := by rw [← Nat.pow_add]; congr 1; omega
      rw [e] at h
      have h2 : y < 2 ^ (Lib.bitLen y - 1) := Nat.lt_of_mul_lt_mul_right h
      have := Lib.bitLen_le y (Lib.bitLen y - 1) (by omega) h2
      omega
    · exact h
  · have e : 2 ^ 64 = 2 ^ (Lib.bitLen y) * 2 ^ (64 - Lib.bitLen y) := by rw [← Nat.pow_add]; congr 1; omega
    rw [e]
    refine Nat.mul_lt_mul_of_pos_right ?_ (Nat.pos_of_ne_zero (by simp))
    rcases Nat.lt_or_ge y (2 ^ Lib.bitLen y) with h | h
    · exact h
    · exfalso
      rcases Nat.lt_or_ge (Lib.bitLen y) 64 with h64 | h64
      · have h3 := Lib.bitLen_shift (Lib.bitLen y) y h h1
        have h4 : 0 < y / 2 ^ Lib.bitLen y := Nat.div_pos h (Nat.pos_of_ne_zero (by simp))
        have h5 : 0 < Lib.bitLen (y / 2 ^ Lib.bitLen y) := by rw [Lib.bitLen_half _ (by omega) (Nat.lt_of_le_of_lt (Nat.div_le_self _ _) h1)]; omega
        omega
      · rw [show Lib.bitLen y = 64 from by omega] at h; omega
set_option maxHeartbeats 1000000 in
theorem div64_small (lo y : Nat) (w : World) (hlo : lo < 18446744073709551616) (hy0 : 0 < y) (hy : y < 18446744073709551616) :
    Calls Tryd.prog 30 #[.int .u64 0, .int .u64 lo, .int .u64 y] w fun e w' => e = .returned (.tuple #[.int .u64 ((lo / y : Nat) : Int), .int .u64 ((lo % y : Nat) : Int)]) ∧ ∃ n, w' = w.drewN n := by
  have hloI : (lo : Int) ≤ 18446744073709551615 := by omega
  have hyI : (y : Int) ≤ 18446744073709551615 := by omega
  have hy0I : (0 : Int) < (y : Int) := by omega
  have hz : ((y : Int) == 0) = false := by simp; omega
  have hq : ((lo / y : Nat) : Int) ≤ 18446744073709551615 := by have := Nat.div_le_self lo y; omega
  have hq0 := Int.natCast_nonneg (lo / y)
  rw [Int.natCast_ediv] at hq hq0
  have hw : IntKind.u64.wrap ((lo : Int) / (y : Int)) = (lo : Int) / (y : Int) := by
    rw [IntKind.wrap_u64]; exact Int.emod_eq_of_lt hq0 (by generalize (lo : Int) / (y : Int) = z at *; omega)
  clear hlo hy hq hq0
  go_enter Tryd.func30, Tryd.ntmps30
  go_upto_region 6 with (fail)
  go_quiet (fail)
  go_wp2
  go_ret2
  exact ⟨rfl, _, rfl⟩
set_option maxRecDepth 20000 in
set_option maxHeartbeats 2000000 in
theorem div64_great (hi lo y : Nat) (w : World) (hlo : lo < 18446744073709551616) (hh0 : 0 < hi) (hhy : hi < y) (hy : y < 18446744073709551616) :
    Calls Tryd.prog 30 #[.int .u64 hi, .int .u64 lo, .int .u64 y] w fun e w' => e = .returned (.tuple #[.int .u64 (((hi * 18446744073709551616 + lo) / y : Nat) : Int), .int .u64 (((hi * 18446744073709551616 + lo) % y : Nat) : Int)]) ∧ w = w' := by
  obtain ⟨RQ, hRQ⟩ : ∃ q, (hi * 18446744073709551616 + lo) / y = q := ⟨_, rfl⟩
  obtain ⟨RR, hRR⟩ : ∃ q, (hi * 18446744073709551616 + lo) % y = q := ⟨_, rfl⟩
  rw [hRQ, hRR]
  have HRQ := Lib.hid (And.intro hRQ hRR)
  clear hRQ hRR
  obtain ⟨s, hs, hsl, hv1, hv2⟩ := norm_word y (by omega) hy
  have hlz := Tryd.bits_LeadingZeros64 y w (by omega) (by omega)
  rw [Int.toNat_natCast, hsl] at hlz
  have HLZ := Lib.hid hlz
  obtain ⟨v, hv⟩ : ∃ v, y * 2 ^ s = v := ⟨_, rfl⟩
  rw [hv] at hv1 hv2
  have hyI : (y : Int) ≤ 18446744073709551615 := by omega
  have hhI : (hi : Int) ≤ 18446744073709551615 := by omega
  have hloI : (lo : Int) ≤ 18446744073709551615 := by omega
  have hz : ((y : Int) == 0) = false := by simp; omega
  have hz2 : ((hi : Int) == 0) = false := by simp; omega
  have hyy : decide (y ≤ hi) = false := by rw [decide_eq_false_iff_not]; omega
  have HP := Lib.hid (And.intro hlo (And.intro hh0 (And.intro hhy (And.intro hy (And.intro hv (And.intro hv1 hv2))))))
  have hsI : (s : Int) ≤ 63 := by omega
  have hc2 : ((2 ^ s : Nat) : Int) = (2 : Int) ^ s := by rw [Int.natCast_pow]; rfl
  have hv' : IntKind.u64.wrap ((y : Int) * 2 ^ s) = (v : Int) := by
    rw [← hc2, ← Int.natCast_mul, hv, IntKind.wrap_u64]; omega
  have hA2 : hi * 2 ^ s < v := by rw [← hv]; exact Nat.mul_lt_mul_of_pos_right hhy (Nat.pos_of_ne_zero (by simp))
  have hUv : hi * 2 ^ s + lo / 2 ^ (64 - s) < v := by
    have h1 := Dv.low_lt hlo (s := s) (by omega)
    have h2 : (hi + 1) * 2 ^ s ≤ y * 2 ^ s := Nat.mul_le_mul_right _ hhy
    rw [Nat.add_mul, Nat.one_mul, hv] at h2
    omega
  have hwords := Dv.words (hi := hi) hlo (s := s) (by omega)
  have hor0 : hi * 2 ^ s ||| lo / 2 ^ (64 - s) = hi * 2 ^ s + lo / 2 ^ (64 - s) := by
    rw [Nat.mul_comm hi]; exact (Nat.two_pow_add_eq_or_of_lt (Dv.low_lt hlo (s := s) (by omega)) hi).symm
  obtain ⟨A, hA⟩ : ∃ A, hi * 2 ^ s = A := ⟨_, rfl⟩
  obtain ⟨D, hD⟩ : ∃ D, lo / 2 ^ (64 - s) = D := ⟨_, rfl⟩
  obtain ⟨L, hL⟩ : ∃ L, lo * 2 ^ s % 2 ^ 64 = L := ⟨_, rfl⟩
  rw [hA, hD] at hwords hor0 hUv
  rw [hL] at hwords
  rw [hA] at hA2
  obtain ⟨U, hU⟩ : ∃ U, A + D = U := ⟨_, rfl⟩
  rw [hU] at hor0 hwords hUv
  have hLb : L < 2 ^ 64 := by rw [← hL]; exact Nat.mod_lt _ (by decide)
  have hh' : IntKind.u64.wrap ((hi : Int) * 2 ^ s) = (A : Int) := by
    rw [← hc2, ← Int.natCast_mul, hA, IntKind.wrap_u64]; omega
  have hl' : (lo : Int) / 2 ^ (64 - s) = (D : Int) := by rw [← hD, Int.natCast_ediv, Int.natCast_pow]; rfl
  have hL' : IntKind.u64.wrap ((lo : Int) * 2 ^ s) = (L : Int) := by
    rw [← hc2, ← Int.natCast_mul, IntKind.wrap_u64, ← hL]; omega
  have hor : Go.bits .or .u64 (A : Int) (D : Int) = (U : Int) := by rw [bits_or_u64_nat A D (by omega) (by omega), hor0]
  have hm := and_mask (v : Int) (by omega) (by omega)
  have hm2 := and_mask (L : Int) (by omega) (by omega)
  have HWD := Lib.hid (And.intro hwords (And.intro hUv (And.intro hLb (And.intro hv2 hv))))
  have hvI : (v : Int) ≤ 18446744073709551615 := by omega
  have hLI : (L : Int) ≤ 18446744073709551615 := by omega
  clear hlo hh0 hhy hy hv hv1 hv2 hsl hlz hc2 hA2 hwords hor0 hUv hLb hA hD hL hU
  go_enter Tryd.func30, Tryd.ntmps30
  go_upto_region 8 with (go_at_call 44; (with_reducible refine HLZ.out.mono ?_); rintro e w' ⟨rfl, hw'⟩; have hw2 := hw'.symm; clear hw'; subst hw2)
  go_upto_region 15 with (fail)
  clear hv' hh' hl' hL' hor hm hm2
  obtain ⟨y1, y0, hy1, hy0, hvv⟩ : ∃ y1 y0 : Nat, (v : Int) / 4294967296 = (y1 : Int) ∧ (v : Int) % 4294967296 = (y0 : Int) ∧ v = y1 * 4294967296 + y0 ∧ y0 < 4294967296 ∧ 2147483648 ≤ y1 ∧ y1 < 4294967296 := ⟨v / 4294967296, v % 4294967296, by omega, by omega, by have := HP.out; omega⟩
  obtain ⟨u1, u0, hu1, hu0, huu⟩ : ∃ u1 u0 : Nat, (L : Int) / 4294967296 = (u1 : Int) ∧ (L : Int) % 4294967296 = (u0 : Int) ∧ L = u1 * 4294967296 + u0 ∧ u0 < 4294967296 ∧ u1 < 4294967296 := ⟨L / 4294967296, L % 4294967296, by omega, by omega, by omega⟩
  rw [hy1, hy0, hu1, hu0]
  have HD := Lib.hid (And.intro hvv huu)
  clear hy1 hy0 hu1 hu0 hvv huu
  have HU1 := Lib.hid (show U < v from HWD.out.2.1)
  have hDD := HD.out
  have hu1B : u1 < 4294967296 := by omega
  have hu0B : u0 < 4294967296 := by omega
  have hy0B : y0 < 4294967296 := by omega
  have hy1B : 2147483648 ≤ y1 ∧ y1 < 4294967296 := by omega
  have hu1I : (u1 : Int) < 4294967296 := by omega
  have hu0I : (u0 : Int) < 4294967296 := by omega
  have hy0I : (y0 : Int) < 4294967296 := by omega
  have hy1I : (y1 : Int) < 4294967296 := by omega
  clear hDD
  have HI1 : Hid (U = U / y1 * y1 + U % y1 ∧ U % y1 < y1 ∧ U / y1 ≤ 4294967297) := Lib.hid ⟨by rw [Nat.mul_comm]; exact (Nat.div_add_mod U y1).symm, Nat.mod_lt _ (by omega), Dv.est_small (B := 4294967296) (y0 := y0) (by omega) (by omega) (by have := HU1.out; have := HD.out.1.1; omega)⟩
  obtain ⟨q1, hq1⟩ : ∃ q, U / y1 = q := ⟨_, rfl⟩
  obtain ⟨r1, hr1⟩ : ∃ r, U % y1 = r := ⟨_, rfl⟩
  rw [hq1, hr1] at HI1
  have hqI1 : (U : Int) / (y1 : Int) = (q1 : Int) := by rw [← hq1]; rfl
  obtain ⟨p1, hp1⟩ : ∃ p, q1 * y1 = p := ⟨_, rfl⟩
  have hpI1 : IntKind.u64.wrap ((q1 : Int) * (y1 : Int)) = (p1 : Int) := by
    rw [← Int.natCast_mul, hp1, IntKind.wrap_u64]
    have := HI1.out.1; rw [hp1] at this
    have := HU1.out; have := HP.out
    omega
  have hqb1 : (q1 : Int) ≤ 4294967297 := by have := HI1.out; omega
  have hle1 : (p1 : Int) ≤ (U : Int) := by have := HI1.out.1; rw [hp1] at this; omega
  have hsub1 : (U : Int) - (p1 : Int) = (r1 : Int) := by have := HI1.out.1; rw [hp1] at this; omega
  have hUI1 : (U : Int) ≤ 18446744073709551615 := by have := HU1.out; have := HP.out; omega
  have hy1I1 : (0 : Int) < (y1 : Int) := by omega
  have hy1z1 : ((y1 : Int) == 0) = false := by simp; omega
  have hq01 := HI1.out
  rw [hp1] at hq01
  have HE1 : Hid (U = q1 * y1 + r1 ∧ r1 < y1 ∧ q1 ≤ 4294967297) := Lib.hid (by have := HI1.out; exact this)
  clear hq1 hr1 hp1 HI1 hq01
  go_upto_region 17 with (fail)
  clear hqI1 hpI1 hsub1 hle1
  obtain ⟨Q1, hQ1⟩ : ∃ Q, (U * 4294967296 + u1) / v = Q := ⟨_, rfl⟩
  have HQ1 := Lib.hid hQ1
  have hQ1b : Q1 < 4294967296 := by rw [← hQ1]; exact Dv.quo_lt (by omega) (by have := HU1.out; omega)
  have hst1 : Q1 ≤ q1 := by
    have h := Dv.est_top (B := 4294967296) (y1 := y1) (y0 := y0) (U := U) (u1 := u1) (by omega) (by omega)
    rw [q_of HE1.out.1 HE1.out.2.1, ← show v = y1 * 4294967296 + y0 from HD.out.1.1, HQ1.out] at h
    exact h
  have HQ1b := Lib.hid hQ1b
  have hQ1I : (Q1 : Int) ≤ 4294967295 := by omega
  have HS1 : Hid (Q1 ≤ q1 ∧ U = q1 * y1 + r1 ∧ q1 ≤ 4294967297) := Lib.hid ⟨hst1, HE1.out.1, HE1.out.2.2⟩
  have hr1I : (r1 : Int) < 4294967296 := by have := HE1.out; omega
  have hq1I : (q1 : Int) ≤ 4294967297 := by have := HE1.out; omega
  clear hQ1 hst1 HE1 hQ1b
  go_loop [15, 16] (fun a b => ∃ q r : Nat, Hid (Q1 ≤ q ∧ U = q * y1 + r ∧ q ≤ 4294967297) ∧ (q : Int) ≤ 4294967297 ∧ (r : Int) < 4294967296 ∧ a = .int .u64 q ∧ b = .int .u64 r) (fun _ b => (4294967296 - intOf b).toNat)
  case atStart => exact ⟨q1, r1, HS1, hq1I, hr1I, rfl, rfl⟩
  case round =>
    obtain ⟨q, r, HR, hqI, hrI, rfl, rfl⟩ := hrel
    clear HS1 hr1I hq1I
    have hv0 : 0 < y1 * 4294967296 + y0 := by have := HD.out.1.1; omega
    by_cases c1 : (4294967296 : Int) ≤ (q : Int)
    · have hQ1 : Q1 ≤ q - 1 := by have := HQ1b.out; omega
      by_cases hb : (4294967296 : Int) ≤ (r : Int) + (y1 : Int)
      · have he : (q : Int) - 1 = (Q1 : Int) := by
          have h := Dv.break_ok (B := 4294967296) (y1 := y1) (y0 := y0) (U := U) (u1 := u1) (q := q - 1) (r := r + y1) hv0 (by omega) (Dv.down HR.out.2.1 (by omega)) (by rw [← show v = y1 * 4294967296 + y0 from HD.out.1.1, HQ1.out]; exact hQ1) (by omega) (by omega)
          rw [← show v = y1 * 4294967296 + y0 from HD.out.1.1, HQ1.out] at h
          omega
        clear hQ1 HR hv0
        go_upto_region 21 with (fail)
        clear he hb c1 hqI hrI
        obtain ⟨U2, hU2⟩ : ∃ R, (U * 4294967296 + u1) % v = R := ⟨_, rfl⟩
        have hdm5 : Q1 * v + U2 = U * 4294967296 + u1 := by rw [← HQ1.out, ← hU2, Nat.mul_comm]; exact Nat.div_add_mod _ _
        have hU2b : U2 < v := by rw [← hU2]; exact Nat.mod_lt _ (by have := HP.out; omega)
        have HU2 := Lib.hid (And.intro hU2 hU2b)
        obtain ⟨Y5, hY5⟩ : ∃ Y, Q1 * v = Y := ⟨_, rfl⟩
        rw [hY5] at hdm5
        obtain ⟨a5, ha5⟩ : ∃ a : Nat, IntKind.u64.wrap ((U : Int) * 4294967296) = (a : Int) := ⟨U * 4294967296 % 18446744073709551616, by rw [IntKind.wrap_u64]; omega⟩
        obtain ⟨b5, hb5⟩ : ∃ b : Nat, IntKind.u64.wrap ((a5 : Int) + (u1 : Int)) = (b : Int) := ⟨(a5 + u1) % 18446744073709551616, by rw [IntKind.wrap_u64]; omega⟩
        obtain ⟨c5, hc5⟩ : ∃ c : Nat, IntKind.u64.wrap ((Q1 : Int) * (v : Int)) = (c : Int) := ⟨Y5 % 18446744073709551616, by rw [← Int.natCast_mul, hY5, IntKind.wrap_u64]; omega⟩
        have hd5 : IntKind.u64.wrap ((b5 : Int) - (c5 : Int)) = (U2 : Int) := by
          have e3 := hc5
          rw [← Int.natCast_mul, hY5] at e3
          have e1 := ha5
          have e2 := hb5
          rw [IntKind.wrap_u64] at e1 e2 e3 ⊢
          have := HP.out
          omega
        clear hdm5 hY5 hU2
        have hU2I : (U2 : Int) ≤ 18446744073709551615 := by have := HP.out; omega
        have HU3 := Lib.hid hU2b
        have HI2 : Hid (U2 = U2 / y1 * y1 + U2 % y1 ∧ U2 % y1 < y1 ∧ U2 / y1 ≤ 4294967297) := Lib.hid ⟨by rw [Nat.mul_comm]; exact (Nat.div_add_mod U2 y1).symm, Nat.mod_lt _ (by omega), Dv.est_small (B := 4294967296) (y0 := y0) (by omega) (by omega) (by have := HU2.out.2; have := HD.out.1.1; omega)⟩
        obtain ⟨q2, hq2⟩ : ∃ q, U2 / y1 = q := ⟨_, rfl⟩
        obtain ⟨r2, hr2⟩ : ∃ r, U2 % y1 = r := ⟨_, rfl⟩
        rw [hq2, hr2] at HI2
        have hqI2 : (U2 : Int) / (y1 : Int) = (q2 : Int) := by rw [← hq2]; rfl
        obtain ⟨p2, hp2⟩ : ∃ p, q2 * y1 = p := ⟨_, rfl⟩
        have hpI2 : IntKind.u64.wrap ((q2 : Int) * (y1 : Int)) = (p2 : Int) := by
          rw [← Int.natCast_mul, hp2, IntKind.wrap_u64]
          have := HI2.out.1; rw [hp2] at this
          have := HU2.out.2; have := HP.out
          omega
        have hqb2 : (q2 : Int) ≤ 4294967297 := by have := HI2.out; omega
        have hle2 : (p2 : Int) ≤ (U2 : Int) := by have := HI2.out.1; rw [hp2] at this; omega
        have hsub2 : (U2 : Int) - (p2 : Int) = (r2 : Int) := by have := HI2.out.1; rw [hp2] at this; omega
        have hUI2 : (U2 : Int) ≤ 18446744073709551615 := by have := HU2.out.2; have := HP.out; omega
        have hy1I2 : (0 : Int) < (y1 : Int) := by omega
        have hy1z2 : ((y1 : Int) == 0) = false := by simp; omega
        have hq02 := HI2.out
        rw [hp2] at hq02
        have HE2 : Hid (U2 = q2 * y1 + r2 ∧ r2 < y1 ∧ q2 ≤ 4294967297) := Lib.hid (by have := HI2.out; exact this)
        clear hq2 hr2 hp2 HI2 hq02
        go_upto_region 24 with (fail)
        clear hqI2 hpI2 hsub2 hle2 hd5 hc5 hb5 ha5
        obtain ⟨Q2, hQ2⟩ : ∃ Q, (U2 * 4294967296 + u0) / v = Q := ⟨_, rfl⟩
        have HQ2 := Lib.hid hQ2
        have hQ2b : Q2 < 4294967296 := by rw [← hQ2]; exact Dv.quo_lt (by omega) (by have := HU3.out; omega)
        have hst3 : Q2 ≤ q2 := by
          have h := Dv.est_top (B := 4294967296) (y1 := y1) (y0 := y0) (U := U2) (u1 := u0) (by omega) (by omega)
          rw [q_of HE2.out.1 HE2.out.2.1, ← show v = y1 * 4294967296 + y0 from HD.out.1.1, HQ2.out] at h
          exact h
        have HQ2b := Lib.hid hQ2b
        have hQ2I : (Q2 : Int) ≤ 4294967295 := by omega
        have HS3 : Hid (Q2 ≤ q2 ∧ U2 = q2 * y1 + r2 ∧ q2 ≤ 4294967297) := Lib.hid ⟨hst3, HE2.out.1, HE2.out.2.2⟩
        have hr2I : (r2 : Int) < 4294967296 := by have := HE2.out; omega
        have hq2I : (q2 : Int) ≤ 4294967297 := by have := HE2.out; omega
        clear hQ2 hst3 HE2 hQ2b
        go_loop [18, 16] (fun a b => ∃ q r : Nat, Hid (Q2 ≤ q ∧ U2 = q * y1 + r ∧ q ≤ 4294967297) ∧ (q : Int) ≤ 4294967297 ∧ (r : Int) < 4294967296 ∧ a = .int .u64 q ∧ b = .int .u64 r) (fun _ b => (4294967296 - intOf b).toNat)
        case atStart => exact ⟨q2, r2, HS3, hq2I, hr2I, rfl, rfl⟩
        case round =>
          obtain ⟨q, r, HR, hqI, hrI, rfl, rfl⟩ := hrel
          clear HS3 hr2I hq2I
          have hv0 : 0 < y1 * 4294967296 + y0 := by have := HD.out.1.1; omega
          by_cases c1 : (4294967296 : Int) ≤ (q : Int)
          · have hQ1 : Q2 ≤ q - 1 := by have := HQ2b.out; omega
            by_cases hb : (4294967296 : Int) ≤ (r : Int) + (y1 : Int)
            · have he : (q : Int) - 1 = (Q2 : Int) := by
                have h := Dv.break_ok (B := 4294967296) (y1 := y1) (y0 := y0) (U := U2) (u1 := u0) (q := q - 1) (r := r + y1) hv0 (by omega) (Dv.down HR.out.2.1 (by omega)) (by rw [← show v = y1 * 4294967296 + y0 from HD.out.1.1, HQ2.out]; exact hQ1) (by omega) (by omega)
                rw [← show v = y1 * 4294967296 + y0 from HD.out.1.1, HQ2.out] at h
                omega
              clear hQ1 HR hv0
              go_upto_region 28 with (fail)
              clear he hb c1 hqI hrI
              obtain ⟨R2, hR2⟩ : ∃ R, (U2 * 4294967296 + u0) % v = R := ⟨_, rfl⟩
              have hdm6 : Q2 * v + R2 = U2 * 4294967296 + u0 := by rw [← HQ2.out, ← hR2, Nat.mul_comm]; exact Nat.div_add_mod _ _
              have hR2b : R2 < v := by rw [← hR2]; exact Nat.mod_lt _ (by have := HP.out; omega)
              have HR2 := Lib.hid (And.intro hR2 hR2b)
              obtain ⟨Y6, hY6⟩ : ∃ Y, Q2 * v = Y := ⟨_, rfl⟩
              rw [hY6] at hdm6
              obtain ⟨a6, ha6⟩ : ∃ a : Nat, IntKind.u64.wrap ((U2 : Int) * 4294967296) = (a : Int) := ⟨U2 * 4294967296 % 18446744073709551616, by rw [IntKind.wrap_u64]; omega⟩
              obtain ⟨b6, hb6⟩ : ∃ b : Nat, IntKind.u64.wrap ((a6 : Int) + (u0 : Int)) = (b : Int) := ⟨(a6 + u0) % 18446744073709551616, by rw [IntKind.wrap_u64]; omega⟩
              obtain ⟨c6, hc6⟩ : ∃ c : Nat, IntKind.u64.wrap ((Q2 : Int) * (v : Int)) = (c : Int) := ⟨Y6 % 18446744073709551616, by rw [← Int.natCast_mul, hY6, IntKind.wrap_u64]; omega⟩
              have hd6 : IntKind.u64.wrap ((b6 : Int) - (c6 : Int)) = (R2 : Int) := by
                have e3 := hc6
                rw [← Int.natCast_mul, hY6] at e3
                have e1 := ha6
                have e2 := hb6
                rw [IntKind.wrap_u64] at e1 e2 e3 ⊢
                have := HP.out
                omega
              clear hdm6 hY6 hR2
              have hR2I : (R2 : Int) ≤ 18446744073709551615 := by have := HP.out; omega
              have hfin : Q1 * 4294967296 + Q2 = (hi * 18446744073709551616 + lo) / y ∧ R2 / 2 ^ s = (hi * 18446744073709551616 + lo) % y := by
                have hs2 : 0 < 2 ^ s := Nat.pos_of_ne_zero (by simp)
                have h1 := Dv.scaled (N := hi * 18446744073709551616 + lo) (y := y) hs2
                have h2 := HWD.out.1
                have h3 := HWD.out.2.2.2.2
                rw [h3] at h1
                have h4 := Dv.two_digits (B := 4294967296) (v := v) (U := U) (u1 := u1) (u0 := u0) (by have := HP.out; omega) (by decide) (by omega)
                rw [HQ1.out, HU2.out.1, HQ2.out, HR2.out.1] at h4
                have h5 : (hi * 18446744073709551616 + lo) * 2 ^ s = (U * 4294967296 + u1) * 4294967296 + u0 := by
                  have h6 : (hi * 18446744073709551616 + lo) * 2 ^ s = U * 2 ^ 64 + L := h2
                  rw [h6, Nat.add_mul, Nat.mul_assoc]
                  have := HD.out.2
                  omega
                rw [h5, h4.1, h4.2] at h1
                exact ⟨h1.1, h1.2⟩
              have e1 : (RQ : Int) = (Q1 : Int) * 4294967296 + (Q2 : Int) := by rw [← HRQ.out.1, ← hfin.1]; simp
              have e2 : (RR : Int) = (R2 : Int) / 2 ^ s := by rw [← HRQ.out.2, ← hfin.2, Int.natCast_ediv, Int.natCast_pow]; rfl
              have HFN := Lib.hid (And.intro e1 e2)
              clear hfin e1 e2
              go_wp2
              go_ret2
              rw [HFN.out.1, HFN.out.2]
              exact ⟨rfl, rfl⟩
            · have HN : Hid (Q2 ≤ q - 1 ∧ U2 = (q - 1) * y1 + (r + y1) ∧ q - 1 ≤ 4294967297) := Lib.hid ⟨hQ1, Dv.down HR.out.2.1 (by omega), by omega⟩
              have hb' : decide ((4294967296 : Int) ≤ (r : Int) + (y1 : Int)) = false ∧ Hid (¬ (4294967296 : Int) ≤ (r : Int) + (y1 : Int)) := ⟨by rw [decide_eq_false_iff_not]; exact hb, Lib.hid hb⟩
              obtain ⟨hb', HBb⟩ := hb'
              clear hQ1 HR hb hv0
              go_wp2
              go_round
              case rel => exact ⟨q - 1, r + y1, HN, by omega, by have := HBb.out; omega, by congr 1; omega, by congr 1⟩
              case measure => first | (simp [intOf]; done) | (simp [intOf]; omega)
          · obtain ⟨P, hP⟩ : ∃ P, q * y0 = P := ⟨_, rfl⟩
            have hPb : P ≤ 4294967295 * 4294967295 := by rw [← hP]; exact Nat.mul_le_mul (by omega) (by omega)
            have hPI : IntKind.u64.wrap ((q : Int) * (y0 : Int)) = (P : Int) := by rw [← Int.natCast_mul, hP, IntKind.wrap_u64]; omega
            have hqs : (q : Int) < 4294967296 := by omega
            have hP2 : (P : Int) ≤ 18446744065119617025 := by omega
            clear hPb c1
            by_cases c2 : (4294967296 : Int) * (r : Int) + (u0 : Int) < (P : Int)
            · have hQ1 : Q2 ≤ q - 1 := by
                have h := Dv.less_ok (B := 4294967296) (y1 := y1) (y0 := y0) (U := U2) (u1 := u0) hv0 HR.out.2.1 (by rw [hP]; omega)
                rw [← show v = y1 * 4294967296 + y0 from HD.out.1.1, HQ2.out] at h
                exact h
              have hq1 : 1 ≤ q := by
                rcases Nat.eq_zero_or_pos q with h | h
                · rw [h, Nat.zero_mul] at hP; omega
                · exact h
              have hq1I : (1 : Int) ≤ (q : Int) := by omega
              by_cases hb : (4294967296 : Int) ≤ (r : Int) + (y1 : Int)
              · have he : (q : Int) - 1 = (Q2 : Int) := by
                  have h := Dv.break_ok (B := 4294967296) (y1 := y1) (y0 := y0) (U := U2) (u1 := u0) (q := q - 1) (r := r + y1) hv0 (by omega) (Dv.down HR.out.2.1 (by omega)) (by rw [← show v = y1 * 4294967296 + y0 from HD.out.1.1, HQ2.out]; exact hQ1) (by omega) (by omega)
                  rw [← show v = y1 * 4294967296 + y0 from HD.out.1.1, HQ2.out] at h
                  omega
                clear hQ1 HR hq1 hP hv0
                go_upto_region 28 with (fail)
                clear he hb c2 hqI hrI hPI hP2 hqs hq1I
                obtain ⟨R2, hR2⟩ : ∃ R, (U2 * 4294967296 + u0) % v = R := ⟨_, rfl⟩
                have hdm6 : Q2 * v + R2 = U2 * 4294967296 + u0 := by rw [← HQ2.out, ← hR2, Nat.mul_comm]; exact Nat.div_add_mod _ _
                have hR2b : R2 < v := by rw [← hR2]; exact Nat.mod_lt _ (by have := HP.out; omega)
                have HR2 := Lib.hid (And.intro hR2 hR2b)
                obtain ⟨Y6, hY6⟩ : ∃ Y, Q2 * v = Y := ⟨_, rfl⟩
                rw [hY6] at hdm6
                obtain ⟨a6, ha6⟩ : ∃ a : Nat, IntKind.u64.wrap ((U2 : Int) * 4294967296) = (a : Int) := ⟨U2 * 4294967296 % 18446744073709551616, by rw [IntKind.wrap_u64]; omega⟩
                obtain ⟨b6, hb6⟩ : ∃ b : Nat, IntKind.u64.wrap ((a6 : Int) + (u0 : Int)) = (b : Int) := ⟨(a6 + u0) % 18446744073709551616, by rw [IntKind.wrap_u64]; omega⟩
                obtain ⟨c6, hc6⟩ : ∃ c : Nat, IntKind.u64.wrap ((Q2 : Int) * (v : Int)) = (c : Int) := ⟨Y6 % 18446744073709551616, by rw [← Int.natCast_mul, hY6, IntKind.wrap_u64]; omega⟩
                have hd6 : IntKind.u64.wrap ((b6 : Int) - (c6 : Int)) = (R2 : Int) := by
                  have e3 := hc6
                  rw [← Int.natCast_mul, hY6] at e3
                  have e1 := ha6
                  have e2 := hb6
                  rw [IntKind.wrap_u64] at e1 e2 e3 ⊢
                  have := HP.out
                  omega
                clear hdm6 hY6 hR2
                have hR2I : (R2 : Int) ≤ 18446744073709551615 := by have := HP.out; omega
                have hfin : Q1 * 4294967296 + Q2 = (hi * 18446744073709551616 + lo) / y ∧ R2 / 2 ^ s = (hi * 18446744073709551616 + lo) % y := by
                  have hs2 : 0 < 2 ^ s := Nat.pos_of_ne_zero (by simp)
                  have h1 := Dv.scaled (N := hi * 18446744073709551616 + lo) (y := y) hs2
                  have h2 := HWD.out.1
                  have h3 := HWD.out.2.2.2.2
                  rw [h3] at h1
                  have h4 := Dv.two_digits (B := 4294967296) (v := v) (U := U) (u1 := u1) (u0 := u0) (by have := HP.out; omega) (by decide) (by omega)
                  rw [HQ1.out, HU2.out.1, HQ2.out, HR2.out.1] at h4
                  have h5 : (hi * 18446744073709551616 + lo) * 2 ^ s = (U * 4294967296 + u1) * 4294967296 + u0 := by
                    have h6 : (hi * 18446744073709551616 + lo) * 2 ^ s = U * 2 ^ 64 + L := h2
                    rw [h6, Nat.add_mul, Nat.mul_assoc]
                    have := HD.out.2
                    omega
                  rw [h5, h4.1, h4.2] at h1
                  exact ⟨h1.1, h1.2⟩
                have e1 : (RQ : Int) = (Q1 : Int) * 4294967296 + (Q2 : Int) := by rw [← HRQ.out.1, ← hfin.1]; simp
                have e2 : (RR : Int) = (R2 : Int) / 2 ^ s := by rw [← HRQ.out.2, ← hfin.2, Int.natCast_ediv, Int.natCast_pow]; rfl
                have HFN := Lib.hid (And.intro e1 e2)
                clear hfin e1 e2
                go_wp2
                go_ret2
                rw [HFN.out.1, HFN.out.2]
                exact ⟨rfl, rfl⟩
              · have HN : Hid (Q2 ≤ q - 1 ∧ U2 = (q - 1) * y1 + (r + y1) ∧ q - 1 ≤ 4294967297) := Lib.hid ⟨hQ1, Dv.down HR.out.2.1 hq1, by omega⟩
                have hb' : decide ((4294967296 : Int) ≤ (r : Int) + (y1 : Int)) = false ∧ Hid (¬ (4294967296 : Int) ≤ (r : Int) + (y1 : Int)) := ⟨by rw [decide_eq_false_iff_not]; exact hb, Lib.hid hb⟩
                obtain ⟨hb', HBb⟩ := hb'
                clear hQ1 HR hb hP hv0
                go_wp2
                go_round
                case rel => exact ⟨q - 1, r + y1, HN, by omega, by have := HBb.out; omega, by congr 1; omega, by congr 1⟩
                case measure => first | (simp [intOf]; done) | (simp [intOf]; omega)
            · have he : q = Q2 := by
                have h := Dv.stop_ok (B := 4294967296) (y1 := y1) (y0 := y0) (U := U2) (u1 := u0) (q := q) (r := r) hv0 HR.out.2.1 (by rw [← show v = y1 * 4294967296 + y0 from HD.out.1.1, HQ2.out]; exact HR.out.1) (by rw [hP]; omega)
                rw [← show v = y1 * 4294967296 + y0 from HD.out.1.1, HQ2.out] at h
                exact h
              have c2' : decide ((4294967296 : Int) * (r : Int) + (u0 : Int) < (P : Int)) = false := by rw [decide_eq_false_iff_not]; exact c2
              have HE9 := Lib.hid he.symm
              have hqs' : decide ((4294967296 : Int) ≤ (q : Int)) = false := by rw [decide_eq_false_iff_not]; omega
              clear HR c2 hP hv0 he hqs
              go_upto_region 28 with (fail)
              clear c2' hqI hrI hPI hP2 hqs'
              have he2 := HE9.out
              clear HE9
              subst he2
              obtain ⟨R2, hR2⟩ : ∃ R, (U2 * 4294967296 + u0) % v = R := ⟨_, rfl⟩
              have hdm6 : Q2 * v + R2 = U2 * 4294967296 + u0 := by rw [← HQ2.out, ← hR2, Nat.mul_comm]; exact Nat.div_add_mod _ _
              have hR2b : R2 < v := by rw [← hR2]; exact Nat.mod_lt _ (by have := HP.out; omega)
              have HR2 := Lib.hid (And.intro hR2 hR2b)
              obtain ⟨Y6, hY6⟩ : ∃ Y, Q2 * v = Y := ⟨_, rfl⟩
              rw [hY6] at hdm6
              obtain ⟨a6, ha6⟩ : ∃ a : Nat, IntKind.u64.wrap ((U2 : Int) * 4294967296) = (a : Int) := ⟨U2 * 4294967296 % 18446744073709551616, by rw [IntKind.wrap_u64]; omega⟩
              obtain ⟨b6, hb6⟩ : ∃ b : Nat, IntKind.u64.wrap ((a6 : Int) + (u0 : Int)) = (b : Int) := ⟨(a6 + u0) % 18446744073709551616, by rw [IntKind.wrap_u64]; omega⟩
              obtain ⟨c6, hc6⟩ : ∃ c : Nat, IntKind.u64.wrap ((Q2 : Int) * (v : Int)) = (c : Int) := ⟨Y6 % 18446744073709551616, by rw [← Int.natCast_mul, hY6, IntKind.wrap_u64]; omega⟩
              have hd6 : IntKind.u64.wrap ((b6 : Int) - (c6 : Int)) = (R2 : Int) := by
                have e3 := hc6
                rw [← Int.natCast_mul, hY6] at e3
                have e1 := ha6
                have e2 := hb6
                rw [IntKind.wrap_u64] at e1 e2 e3 ⊢
                have := HP.out
                omega
              clear hdm6 hY6 hR2
              have hR2I : (R2 : Int) ≤ 18446744073709551615 := by have := HP.out; omega
              have hfin : Q1 * 4294967296 + Q2 = (hi * 18446744073709551616 + lo) / y ∧ R2 / 2 ^ s = (hi * 18446744073709551616 + lo) % y := by
                have hs2 : 0 < 2 ^ s := Nat.pos_of_ne_zero (by simp)
                have h1 := Dv.scaled (N := hi * 18446744073709551616 + lo) (y := y) hs2
                have h2 := HWD.out.1
                have h3 := HWD.out.2.2.2.2
                rw [h3] at h1
                have h4 := Dv.two_digits (B := 4294967296) (v := v) (U := U) (u1 := u1) (u0 := u0) (by have := HP.out; omega) (by decide) (by omega)
                rw [HQ1.out, HU2.out.1, HQ2.out, HR2.out.1] at h4
                have h5 : (hi * 18446744073709551616 + lo) * 2 ^ s = (U * 4294967296 + u1) * 4294967296 + u0 := by
                  have h6 : (hi * 18446744073709551616 + lo) * 2 ^ s = U * 2 ^ 64 + L := h2
                  rw [h6, Nat.add_mul, Nat.mul_assoc]
                  have := HD.out.2
                  omega
                rw [h5, h4.1, h4.2] at h1
                exact ⟨h1.1, h1.2⟩
              have e1 : (RQ : Int) = (Q1 : Int) * 4294967296 + (Q2 : Int) := by rw [← HRQ.out.1, ← hfin.1]; simp
              have e2 : (RR : Int) = (R2 : Int) / 2 ^ s := by rw [← HRQ.out.2, ← hfin.2, Int.natCast_ediv, Int.natCast_pow]; rfl
              have HFN := Lib.hid (And.intro e1 e2)
              clear hfin e1 e2
              go_wp2
              go_ret2
              rw [HFN.out.1, HFN.out.2]
              exact ⟨rfl, rfl⟩
      · have HN : Hid (Q1 ≤ q - 1 ∧ U = (q - 1) * y1 + (r + y1) ∧ q - 1 ≤ 4294967297) := Lib.hid ⟨hQ1, Dv.down HR.out.2.1 (by omega), by omega⟩
        have hb' : decide ((4294967296 : Int) ≤ (r : Int) + (y1 : Int)) = false ∧ Hid (¬ (4294967296 : Int) ≤ (r : Int) + (y1 : Int)) := ⟨by rw [decide_eq_false_iff_not]; exact hb, Lib.hid hb⟩
        obtain ⟨hb', HBb⟩ := hb'
        clear hQ1 HR hb hv0
        go_wp2
        go_round
        case rel => exact ⟨q - 1, r + y1, HN, by omega, by have := HBb.out; omega, by congr 1; omega, by congr 1⟩
        case measure => first | (simp [intOf]; done) | (simp [intOf]; omega)
    · obtain ⟨P, hP⟩ : ∃ P, q * y0 = P := ⟨_, rfl⟩
      have hPb : P ≤ 4294967295 * 4294967295 := by rw [← hP]; exact Nat.mul_le_mul (by omega) (by omega)
      have hPI : IntKind.u64.wrap ((q : Int) * (y0 : Int)) = (P : Int) := by rw [← Int.natCast_mul, hP, IntKind.wrap_u64]; omega
      have hqs : (q : Int) < 4294967296 := by omega
      have hP2 : (P : Int) ≤ 18446744065119617025 := by omega
      clear hPb c1
      by_cases c2 : (4294967296 : Int) * (r : Int) + (u1 : Int) < (P : Int)
      · have hQ1 : Q1 ≤ q - 1 := by
          have h := Dv.less_ok (B := 4294967296) (y1 := y1) (y0 := y0) (U := U) (u1 := u1) hv0 HR.out.2.1 (by rw [hP]; omega)
          rw [← show v = y1 * 4294967296 + y0 from HD.out.1.1, HQ1.out] at h
          exact h
        have hq1 : 1 ≤ q := by
          rcases Nat.eq_zero_or_pos q with h | h
          · rw [h, Nat.zero_mul] at hP; omega
          · exact h
        have hq1I : (1 : Int) ≤ (q : Int) := by omega
        by_cases hb : (4294967296 : Int) ≤ (r : Int) + (y1 : Int)
        · have he : (q : Int) - 1 = (Q1 : Int) := by
            have h := Dv.break_ok (B := 4294967296) (y1 := y1) (y0 := y0) (U := U) (u1 := u1) (q := q - 1) (r := r + y1) hv0 (by omega) (Dv.down HR.out.2.1 (by omega)) (by rw [← show v = y1 * 4294967296 + y0 from HD.out.1.1, HQ1.out]; exact hQ1) (by omega) (by omega)
            rw [← show v = y1 * 4294967296 + y0 from HD.out.1.1, HQ1.out] at h
            omega
          clear hQ1 HR hq1 hP hv0
          go_upto_region 21 with (fail)
          clear he hb c2 hqI hrI hPI hP2 hqs hq1I
          obtain ⟨U2, hU2⟩ : ∃ R, (U * 4294967296 + u1) % v = R := ⟨_, rfl⟩
          have hdm5 : Q1 * v + U2 = U * 4294967296 + u1 := by rw [← HQ1.out, ← hU2, Nat.mul_comm]; exact Nat.div_add_mod _ _
          have hU2b : U2 < v := by rw [← hU2]; exact Nat.mod_lt _ (by have := HP.out; omega)
          have HU2 := Lib.hid (And.intro hU2 hU2b)
          obtain ⟨Y5, hY5⟩ : ∃ Y, Q1 * v = Y := ⟨_, rfl⟩
          rw [hY5] at hdm5
          obtain ⟨a5, ha5⟩ : ∃ a : Nat, IntKind.u64.wrap ((U : Int) * 4294967296) = (a : Int) := ⟨U * 4294967296 % 18446744073709551616, by rw [IntKind.wrap_u64]; omega⟩
          obtain ⟨b5, hb5⟩ : ∃ b : Nat, IntKind.u64.wrap ((a5 : Int) + (u1 : Int)) = (b : Int) := ⟨(a5 + u1) % 18446744073709551616, by rw [IntKind.wrap_u64]; omega⟩
          obtain ⟨c5, hc5⟩ : ∃ c : Nat, IntKind.u64.wrap ((Q1 : Int) * (v : Int)) = (c : Int) := ⟨Y5 % 18446744073709551616, by rw [← Int.natCast_mul, hY5, IntKind.wrap_u64]; omega⟩
          have hd5 : IntKind.u64.wrap ((b5 : Int) - (c5 : Int)) = (U2 : Int) := by
            have e3 := hc5
            rw [← Int.natCast_mul, hY5] at e3
            have e1 := ha5
            have e2 := hb5
            rw [IntKind.wrap_u64] at e1 e2 e3 ⊢
            have := HP.out
            omega
          clear hdm5 hY5 hU2
          have hU2I : (U2 : Int) ≤ 18446744073709551615 := by have := HP.out; omega
          have HU3 := Lib.hid hU2b
          have HI2 : Hid (U2 = U2 / y1 * y1 + U2 % y1 ∧ U2 % y1 < y1 ∧ U2 / y1 ≤ 4294967297) := Lib.hid ⟨by rw [Nat.mul_comm]; exact (Nat.div_add_mod U2 y1).symm, Nat.mod_lt _ (by omega), Dv.est_small (B := 4294967296) (y0 := y0) (by omega) (by omega) (by have := HU2.out.2; have := HD.out.1.1; omega)⟩
          obtain ⟨q2, hq2⟩ : ∃ q, U2 / y1 = q := ⟨_, rfl⟩
          obtain ⟨r2, hr2⟩ : ∃ r, U2 % y1 = r := ⟨_, rfl⟩
          rw [hq2, hr2] at HI2
          have hqI2 : (U2 : Int) / (y1 : Int) = (q2 : Int) := by rw [← hq2]; rfl
          obtain ⟨p2, hp2⟩ : ∃ p, q2 * y1 = p := ⟨_, rfl⟩
          have hpI2 : IntKind.u64.wrap ((q2 : Int) * (y1 : Int)) = (p2 : Int) := by
            rw [← Int.natCast_mul, hp2, IntKind.wrap_u64]
            have := HI2.out.1; rw [hp2] at this
            have := HU2.out.2; have := HP.out
            omega
          have hqb2 : (q2 : Int) ≤ 4294967297 := by have := HI2.out; omega
          have hle2 : (p2 : Int) ≤ (U2 : Int) := by have := HI2.out.1; rw [hp2] at this; omega
          have hsub2 : (U2 : Int) - (p2 : Int) = (r2 : Int) := by have := HI2.out.1; rw [hp2] at this; omega
          have hUI2 : (U2 : Int) ≤ 18446744073709551615 := by have := HU2.out.2; have := HP.out; omega
          have hy1I2 : (0 : Int) < (y1 : Int) := by omega
          have hy1z2 : ((y1 : Int) == 0) = false := by simp; omega
          have hq02 := HI2.out
          rw [hp2] at hq02
          have HE2 : Hid (U2 = q2 * y1 + r2 ∧ r2 < y1 ∧ q2 ≤ 4294967297) := Lib.hid (by have := HI2.out; exact this)
          clear hq2 hr2 hp2 HI2 hq02
          go_upto_region 24 with (fail)
          clear hqI2 hpI2 hsub2 hle2 hd5 hc5 hb5 ha5
          obtain ⟨Q2, hQ2⟩ : ∃ Q, (U2 * 4294967296 + u0) / v = Q := ⟨_, rfl⟩
          have HQ2 := Lib.hid hQ2
          have hQ2b : Q2 < 4294967296 := by rw [← hQ2]; exact Dv.quo_lt (by omega) (by have := HU3.out; omega)
          have hst3 : Q2 ≤ q2 := by
            have h := Dv.est_top (B := 4294967296) (y1 := y1) (y0 := y0) (U := U2) (u1 := u0) (by omega) (by omega)
            rw [q_of HE2.out.1 HE2.out.2.1, ← show v = y1 * 4294967296 + y0 from HD.out.1.1, HQ2.out] at h
            exact h
          have HQ2b := Lib.hid hQ2b
          have hQ2I : (Q2 : Int) ≤ 4294967295 := by omega
          have HS3 : Hid (Q2 ≤ q2 ∧ U2 = q2 * y1 + r2 ∧ q2 ≤ 4294967297) := Lib.hid ⟨hst3, HE2.out.1, HE2.out.2.2⟩
          have hr2I : (r2 : Int) < 4294967296 := by have := HE2.out; omega
          have hq2I : (q2 : Int) ≤ 4294967297 := by have := HE2.out; omega
          clear hQ2 hst3 HE2 hQ2b
          go_loop [18, 16] (fun a b => ∃ q r : Nat, Hid (Q2 ≤ q ∧ U2 = q * y1 + r ∧ q ≤ 4294967297) ∧ (q : Int) ≤ 4294967297 ∧ (r : Int) < 4294967296 ∧ a = .int .u64 q ∧ b = .int .u64 r) (fun _ b => (4294967296 - intOf b).toNat)
          case atStart => exact ⟨q2, r2, HS3, hq2I, hr2I, rfl, rfl⟩
          case round =>
            obtain ⟨q, r, HR, hqI, hrI, rfl, rfl⟩ := hrel
            clear HS3 hr2I hq2I
            have hv0 : 0 < y1 * 4294967296 + y0 := by have := HD.out.1.1; omega
            by_cases c1 : (4294967296 : Int) ≤ (q : Int)
            · have hQ1 : Q2 ≤ q - 1 := by have := HQ2b.out; omega
              by_cases hb : (4294967296 : Int) ≤ (r : Int) + (y1 : Int)
              · have he : (q : Int) - 1 = (Q2 : Int) := by
                  have h := Dv.break_ok (B := 4294967296) (y1 := y1) (y0 := y0) (U := U2) (u1 := u0) (q := q - 1) (r := r + y1) hv0 (by omega) (Dv.down HR.out.2.1 (by omega)) (by rw [← show v = y1 * 4294967296 + y0 from HD.out.1.1, HQ2.out]; exact hQ1) (by omega) (by omega)
                  rw [← show v = y1 * 4294967296 + y0 from HD.out.1.1, HQ2.out] at h
                  omega
                clear hQ1 HR hv0
                go_upto_region 28 with (fail)
                clear he hb c1 hqI hrI
                obtain ⟨R2, hR2⟩ : ∃ R, (U2 * 4294967296 + u0) % v = R := ⟨_, rfl⟩
                have hdm6 : Q2 * v + R2 = U2 * 4294967296 + u0 := by rw [← HQ2.out, ← hR2, Nat.mul_comm]; exact Nat.div_add_mod _ _
                have hR2b : R2 < v := by rw [← hR2]; exact Nat.mod_lt _ (by have := HP.out; omega)
                have HR2 := Lib.hid (And.intro hR2 hR2b)
                obtain ⟨Y6, hY6⟩ : ∃ Y, Q2 * v = Y := ⟨_, rfl⟩
                rw [hY6] at hdm6
                obtain ⟨a6, ha6⟩ : ∃ a : Nat, IntKind.u64.wrap ((U2 : Int) * 4294967296) = (a : Int) := ⟨U2 * 4294967296 % 18446744073709551616, by rw [IntKind.wrap_u64]; omega⟩
                obtain ⟨b6, hb6⟩ : ∃ b : Nat, IntKind.u64.wrap ((a6 : Int) + (u0 : Int)) = (b : Int) := ⟨(a6 + u0) % 18446744073709551616, by rw [IntKind.wrap_u64]; omega⟩
                obtain ⟨c6, hc6⟩ : ∃ c : Nat, IntKind.u64.wrap ((Q2 : Int) * (v : Int)) = (c : Int) := ⟨Y6 % 18446744073709551616, by rw [← Int.natCast_mul, hY6, IntKind.wrap_u64]; omega⟩
                have hd6 : IntKind.u64.wrap ((b6 : Int) - (c6 : Int)) = (R2 : Int) := by
                  have e3 := hc6
                  rw [← Int.natCast_mul, hY6] at e3
                  have e1 := ha6
                  have e2 := hb6
                  rw [IntKind.wrap_u64] at e1 e2 e3 ⊢
                  have := HP.out
                  omega
                clear hdm6 hY6 hR2
                have hR2I : (R2 : Int) ≤ 18446744073709551615 := by have := HP.out; omega
                have hfin : Q1 * 4294967296 + Q2 = (hi * 18446744073709551616 + lo) / y ∧ R2 / 2 ^ s = (hi * 18446744073709551616 + lo) % y := by
                  have hs2 : 0 < 2 ^ s := Nat.pos_of_ne_zero (by simp)
                  have h1 := Dv.scaled (N := hi * 18446744073709551616 + lo) (y := y) hs2
                  have h2 := HWD.out.1
                  have h3 := HWD.out.2.2.2.2
                  rw [h3] at h1
                  have h4 := Dv.two_digits (B := 4294967296) (v := v) (U := U) (u1 := u1) (u0 := u0) (by have := HP.out; omega) (by decide) (by omega)
                  rw [HQ1.out, HU2.out.1, HQ2.out, HR2.out.1] at h4
                  have h5 : (hi * 18446744073709551616 + lo) * 2 ^ s = (U * 4294967296 + u1) * 4294967296 + u0 := by
                    have h6 : (hi * 18446744073709551616 + lo) * 2 ^ s = U * 2 ^ 64 + L := h2
                    rw [h6, Nat.add_mul, Nat.mul_assoc]
                    have := HD.out.2
                    omega
                  rw [h5, h4.1, h4.2] at h1
                  exact ⟨h1.1, h1.2⟩
                have e1 : (RQ : Int) = (Q1 : Int) * 4294967296 + (Q2 : Int) := by rw [← HRQ.out.1, ← hfin.1]; simp
                have e2 : (RR : Int) = (R2 : Int) / 2 ^ s := by rw [← HRQ.out.2, ← hfin.2, Int.natCast_ediv, Int.natCast_pow]; rfl
                have HFN := Lib.hid (And.intro e1 e2)
                clear hfin e1 e2
                go_wp2
                go_ret2
                rw [HFN.out.1, HFN.out.2]
                exact ⟨rfl, rfl⟩
              · have HN : Hid (Q2 ≤ q - 1 ∧ U2 = (q - 1) * y1 + (r + y1) ∧ q - 1 ≤ 4294967297) := Lib.hid ⟨hQ1, Dv.down HR.out.2.1 (by omega), by omega⟩
                have hb' : decide ((4294967296 : Int) ≤ (r : Int) + (y1 : Int)) = false ∧ Hid (¬ (4294967296 : Int) ≤ (r : Int) + (y1 : Int)) := ⟨by rw [decide_eq_false_iff_not]; exact hb, Lib.hid hb⟩
                obtain ⟨hb', HBb⟩ := hb'
                clear hQ1 HR hb hv0
                go_wp2
                go_round
                case rel => exact ⟨q - 1, r + y1, HN, by omega, by have := HBb.out; omega, by congr 1; omega, by congr 1⟩
                case measure => first | (simp [intOf]; done) | (simp [intOf]; omega)
            · obtain ⟨P, hP⟩ : ∃ P, q * y0 = P := ⟨_, rfl⟩
              have hPb : P ≤ 4294967295 * 4294967295 := by rw [← hP]; exact Nat.mul_le_mul (by omega) (by omega)
              have hPI : IntKind.u64.wrap ((q : Int) * (y0 : Int)) = (P : Int) := by rw [← Int.natCast_mul, hP, IntKind.wrap_u64]; omega
              have hqs : (q : Int) < 4294967296 := by omega
              have hP2 : (P : Int) ≤ 18446744065119617025 := by omega
              clear hPb c1
              by_cases c2 : (4294967296 : Int) * (r : Int) + (u0 : Int) < (P : Int)
              · have hQ1 : Q2 ≤ q - 1 := by
                  have h := Dv.less_ok (B := 4294967296) (y1 := y1) (y0 := y0) (U := U2) (u1 := u0) hv0 HR.out.2.1 (by rw [hP]; omega)
                  rw [← show v = y1 * 4294967296 + y0 from HD.out.1.1, HQ2.out] at h
                  exact h
                have hq1 : 1 ≤ q := by
                  rcases Nat.eq_zero_or_pos q with h | h
                  · rw [h, Nat.zero_mul] at hP; omega
                  · exact h
                have hq1I : (1 : Int) ≤ (q : Int) := by omega
                by_cases hb : (4294967296 : Int) ≤ (r : Int) + (y1 : Int)
                · have he : (q : Int) - 1 = (Q2 : Int) := by
                    have h := Dv.break_ok (B := 4294967296) (y1 := y1) (y0 := y0) (U := U2) (u1 := u0) (q := q - 1) (r := r + y1) hv0 (by omega) (Dv.down HR.out.2.1 (by omega)) (by rw [← show v = y1 * 4294967296 + y0 from HD.out.1.1, HQ2.out]; exact hQ1) (by omega) (by omega)
                    rw [← show v = y1 * 4294967296 + y0 from HD.out.1.1, HQ2.out] at h
                    omega
                  clear hQ1 HR hq1 hP hv0
                  go_upto_region 28 with (fail)
                  clear he hb c2 hqI hrI hPI hP2 hqs hq1I
                  obtain ⟨R2, hR2⟩ : ∃ R, (U2 * 4294967296 + u0) % v = R := ⟨_, rfl⟩
                  have hdm6 : Q2 * v + R2 = U2 * 4294967296 + u0 := by rw [← HQ2.out, ← hR2, Nat.mul_comm]; exact Nat.div_add_mod _ _
                  have hR2b : R2 < v := by rw [← hR2]; exact Nat.mod_lt _ (by have := HP.out; omega)
                  have HR2 := Lib.hid (And.intro hR2 hR2b)
                  obtain ⟨Y6, hY6⟩ : ∃ Y, Q2 * v = Y := ⟨_, rfl⟩
                  rw [hY6] at hdm6
                  obtain ⟨a6, ha6⟩ : ∃ a : Nat, IntKind.u64.wrap ((U2 : Int) * 4294967296) = (a : Int) := ⟨U2 * 4294967296 % 18446744073709551616, by rw [IntKind.wrap_u64]; omega⟩
                  obtain ⟨b6, hb6⟩ : ∃ b : Nat, IntKind.u64.wrap ((a6 : Int) + (u0 : Int)) = (b : Int) := ⟨(a6 + u0) % 18446744073709551616, by rw [IntKind.wrap_u64]; omega⟩
                  obtain ⟨c6, hc6⟩ : ∃ c : Nat, IntKind.u64.wrap ((Q2 : Int) * (v : Int)) = (c : Int) := ⟨Y6 % 18446744073709551616, by rw [← Int.natCast_mul, hY6, IntKind.wrap_u64]; omega⟩
                  have hd6 : IntKind.u64.wrap ((b6 : Int) - (c6 : Int)) = (R2 : Int) := by
                    have e3 := hc6
                    rw [← Int.natCast_mul, hY6] at e3
                    have e1 := ha6
                    have e2 := hb6
                    rw [IntKind.wrap_u64] at e1 e2 e3 ⊢
                    have := HP.out
                    omega
                  clear hdm6 hY6 hR2
                  have hR2I : (R2 : Int) ≤ 18446744073709551615 := by have := HP.out; omega
                  have hfin : Q1 * 4294967296 + Q2 = (hi * 18446744073709551616 + lo) / y ∧ R2 / 2 ^ s = (hi * 18446744073709551616 + lo) % y := by
                    have hs2 : 0 < 2 ^ s := Nat.pos_of_ne_zero (by simp)
                    have h1 := Dv.scaled (N := hi * 18446744073709551616 + lo) (y := y) hs2
                    have h2 := HWD.out.1
                    have h3 := HWD.out.2.2.2.2
                    rw [h3] at h1
                    have h4 := Dv.two_digits (B := 4294967296) (v := v) (U := U) (u1 := u1) (u0 := u0) (by have := HP.out; omega) (by decide) (by omega)
                    rw [HQ1.out, HU2.out.1, HQ2.out, HR2.out.1] at h4
                    have h5 : (hi * 18446744073709551616 + lo) * 2 ^ s = (U * 4294967296 + u1) * 4294967296 + u0 := by
                      have h6 : (hi * 18446744073709551616 + lo) * 2 ^ s = U * 2 ^ 64 + L := h2
                      rw [h6, Nat.add_mul, Nat.mul_assoc]
                      have := HD.out.2
                      omega
                    rw [h5, h4.1, h4.2] at h1
                    exact ⟨h1.1, h1.2⟩
                  have e1 : (RQ : Int) = (Q1 : Int) * 4294967296 + (Q2 : Int) := by rw [← HRQ.out.1, ← hfin.1]; simp
                  have e2 : (RR : Int) = (R2 : Int) / 2 ^ s := by rw [← HRQ.out.2, ← hfin.2, Int.natCast_ediv, Int.natCast_pow]; rfl
                  have HFN := Lib.hid (And.intro e1 e2)
                  clear hfin e1 e2
                  go_wp2
                  go_ret2
                  rw [HFN.out.1, HFN.out.2]
                  exact ⟨rfl, rfl⟩
                · have HN : Hid (Q2 ≤ q - 1 ∧ U2 = (q - 1) * y1 + (r + y1) ∧ q - 1 ≤ 4294967297) := Lib.hid ⟨hQ1, Dv.down HR.out.2.1 hq1, by omega⟩
                  have hb' : decide ((4294967296 : Int) ≤ (r : Int) + (y1 : Int)) = false ∧ Hid (¬ (4294967296 : Int) ≤ (r : Int) + (y1 : Int)) := ⟨by rw [decide_eq_false_iff_not]; exact hb, Lib.hid hb⟩
                  obtain ⟨hb', HBb⟩ := hb'
                  clear hQ1 HR hb hP hv0
                  go_wp2
                  go_round
                  case rel => exact ⟨q - 1, r + y1, HN, by omega, by have := HBb.out; omega, by congr 1; omega, by congr 1⟩
                  case measure => first | (simp [intOf]; done) | (simp [intOf]; omega)
              · have he : q = Q2 := by
                  have h := Dv.stop_ok (B := 4294967296) (y1 := y1) (y0 := y0) (U := U2) (u1 := u0) (q := q) (r := r) hv0 HR.out.2.1 (by rw [← show v = y1 * 4294967296 + y0 from HD.out.1.1, HQ2.out]; exact HR.out.1) (by rw [hP]; omega)
                  rw [← show v = y1 * 4294967296 + y0 from HD.out.1.1, HQ2.out] at h
                  exact h
                have c2' : decide ((4294967296 : Int) * (r : Int) + (u0 : Int) < (P : Int)) = false := by rw [decide_eq_false_iff_not]; exact c2
                have HE9 := Lib.hid he.symm
                have hqs' : decide ((4294967296 : Int) ≤ (q : Int)) = false := by rw [decide_eq_false_iff_not]; omega
                clear HR c2 hP hv0 he hqs
                go_upto_region 28 with (fail)
                clear c2' hqI hrI hPI hP2 hqs'
                have he2 := HE9.out
                clear HE9
                subst he2
                obtain ⟨R2, hR2⟩ : ∃ R, (U2 * 4294967296 + u0) % v = R := ⟨_, rfl⟩
                have hdm6 : Q2 * v + R2 = U2 * 4294967296 + u0 := by rw [← HQ2.out, ← hR2, Nat.mul_comm]; exact Nat.div_add_mod _ _
                have hR2b : R2 < v := by rw [← hR2]; exact Nat.mod_lt _ (by have := HP.out; omega)
                have HR2 := Lib.hid (And.intro hR2 hR2b)
                obtain ⟨Y6, hY6⟩ : ∃ Y, Q2 * v = Y := ⟨_, rfl⟩
                rw [hY6] at hdm6
                obtain ⟨a6, ha6⟩ : ∃ a : Nat, IntKind.u64.wrap ((U2 : Int) * 4294967296) = (a : Int) := ⟨U2 * 4294967296 % 18446744073709551616, by rw [IntKind.wrap_u64]; omega⟩
                obtain ⟨b6, hb6⟩ : ∃ b : Nat, IntKind.u64.wrap ((a6 : Int) + (u0 : Int)) = (b : Int) := ⟨(a6 + u0) % 18446744073709551616, by rw [IntKind.wrap_u64]; omega⟩
                obtain ⟨c6, hc6⟩ : ∃ c : Nat, IntKind.u64.wrap ((Q2 : Int) * (v : Int)) = (c : Int) := ⟨Y6 % 18446744073709551616, by rw [← Int.natCast_mul, hY6, IntKind.wrap_u64]; omega⟩
                have hd6 : IntKind.u64.wrap ((b6 : Int) - (c6 : Int)) = (R2 : Int) := by
                  have e3 := hc6
                  rw [← Int.natCast_mul, hY6] at e3
                  have e1 := ha6
                  have e2 := hb6
                  rw [IntKind.wrap_u64] at e1 e2 e3 ⊢
                  have := HP.out
                  omega
                clear hdm6 hY6 hR2
                have hR2I : (R2 : Int) ≤ 18446744073709551615 := by have := HP.out; omega
                have hfin : Q1 * 4294967296 + Q2 = (hi * 18446744073709551616 + lo) / y ∧ R2 / 2 ^ s = (hi * 18446744073709551616 + lo) % y := by
                  have hs2 : 0 < 2 ^ s := Nat.pos_of_ne_zero (by simp)
                  have h1 := Dv.scaled (N := hi * 18446744073709551616 + lo) (y := y) hs2
                  have h2 := HWD.out.1
                  have h3 := HWD.out.2.2.2.2
                  rw [h3] at h1
                  have h4 := Dv.two_digits (B := 4294967296) (v := v) (U := U) (u1 := u1) (u0 := u0) (by have := HP.out; omega) (by decide) (by omega)
                  rw [HQ1.out, HU2.out.1, HQ2.out, HR2.out.1] at h4
                  have h5 : (hi * 18446744073709551616 + lo) * 2 ^ s = (U * 4294967296 + u1) * 4294967296 + u0 := by
                    have h6 : (hi * 18446744073709551616 + lo) * 2 ^ s = U * 2 ^ 64 + L := h2
                    rw [h6, Nat.add_mul, Nat.mul_assoc]
                    have := HD.out.2
                    omega
                  rw [h5, h4.1, h4.2] at h1
                  exact ⟨h1.1, h1.2⟩
                have e1 : (RQ : Int) = (Q1 : Int) * 4294967296 + (Q2 : Int) := by rw [← HRQ.out.1, ← hfin.1]; simp
                have e2 : (RR : Int) = (R2 : Int) / 2 ^ s := by rw [← HRQ.out.2, ← hfin.2, Int.natCast_ediv, Int.natCast_pow]; rfl
                have HFN := Lib.hid (And.intro e1 e2)
                clear hfin e1 e2
                go_wp2
                go_ret2
                rw [HFN.out.1, HFN.out.2]
                exact ⟨rfl, rfl⟩
        · have HN : Hid (Q1 ≤ q - 1 ∧ U = (q - 1) * y1 + (r + y1) ∧ q - 1 ≤ 4294967297) := Lib.hid ⟨hQ1, Dv.down HR.out.2.1 hq1, by omega⟩
          have hb' : decide ((4294967296 : Int) ≤ (r : Int) + (y1 : Int)) = false ∧ Hid (¬ (4294967296 : Int) ≤ (r : Int) + (y1 : Int)) := ⟨by rw [decide_eq_false_iff_not]; exact hb, Lib.hid hb⟩
          obtain ⟨hb', HBb⟩ := hb'
          clear hQ1 HR hb hP hv0
          go_wp2
          go_round
          case rel => exact ⟨q - 1, r + y1, HN, by omega, by have := HBb.out; omega, by congr 1; omega, by congr 1⟩
          case measure => first | (simp [intOf]; done) | (simp [intOf]; omega)
      · have he : q = Q1 := by
          have h := Dv.stop_ok (B := 4294967296) (y1 := y1) (y0 := y0) (U := U) (u1 := u1) (q := q) (r := r) hv0 HR.out.2.1 (by rw [← show v = y1 * 4294967296 + y0 from HD.out.1.1, HQ1.out]; exact HR.out.1) (by rw [hP]; omega)
          rw [← show v = y1 * 4294967296 + y0 from HD.out.1.1, HQ1.out] at h
          exact h
        have c2' : decide ((4294967296 : Int) * (r : Int) + (u1 : Int) < (P : Int)) = false := by rw [decide_eq_false_iff_not]; exact c2
        have HE9 := Lib.hid he.symm
        have hqs' : decide ((4294967296 : Int) ≤ (q : Int)) = false := by rw [decide_eq_false_iff_not]; omega
        clear HR c2 hP hv0 he hqs
        go_upto_region 21 with (fail)
        clear c2' hqI hrI hPI hP2 hqs'
        have he2 := HE9.out
        clear HE9
        subst he2
        obtain ⟨U2, hU2⟩ : ∃ R, (U * 4294967296 + u1) % v = R := ⟨_, rfl⟩
        have hdm5 : Q1 * v + U2 = U * 4294967296 + u1 := by rw [← HQ1.out, ← hU2, Nat.mul_comm]; exact Nat.div_add_mod _ _
        have hU2b : U2 < v := by rw [← hU2]; exact Nat.mod_lt _ (by have := HP.out; omega)
        have HU2 := Lib.hid (And.intro hU2 hU2b)
        obtain ⟨Y5, hY5⟩ : ∃ Y, Q1 * v = Y := ⟨_, rfl⟩
        rw [hY5] at hdm5
        obtain ⟨a5, ha5⟩ : ∃ a : Nat, IntKind.u64.wrap ((U : Int) * 4294967296) = (a : Int) := ⟨U * 4294967296 % 18446744073709551616, by rw [IntKind.wrap_u64]; omega⟩
        obtain ⟨b5, hb5⟩ : ∃ b : Nat, IntKind.u64.wrap ((a5 : Int) + (u1 : Int)) = (b : Int) := ⟨(a5 + u1) % 18446744073709551616, by rw [IntKind.wrap_u64]; omega⟩
        obtain ⟨c5, hc5⟩ : ∃ c : Nat, IntKind.u64.wrap ((Q1 : Int) * (v : Int)) = (c : Int) := ⟨Y5 % 18446744073709551616, by rw [← Int.natCast_mul, hY5, IntKind.wrap_u64]; omega⟩
        have hd5 : IntKind.u64.wrap ((b5 : Int) - (c5 : Int)) = (U2 : Int) := by
          have e3 := hc5
          rw [← Int.natCast_mul, hY5] at e3
          have e1 := ha5
          have e2 := hb5
          rw [IntKind.wrap_u64] at e1 e2 e3 ⊢
          have := HP.out
          omega
        clear hdm5 hY5 hU2
        have hU2I : (U2 : Int) ≤ 18446744073709551615 := by have := HP.out; omega
        have HU3 := Lib.hid hU2b
        have HI2 : Hid (U2 = U2 / y1 * y1 + U2 % y1 ∧ U2 % y1 < y1 ∧ U2 / y1 ≤ 4294967297) := Lib.hid ⟨by rw [Nat.mul_comm]; exact (Nat.div_add_mod U2 y1).symm, Nat.mod_lt _ (by omega), Dv.est_small (B := 4294967296) (y0 := y0) (by omega) (by omega) (by have := HU2.out.2; have := HD.out.1.1; omega)⟩
        obtain ⟨q2, hq2⟩ : ∃ q, U2 / y1 = q := ⟨_, rfl⟩
        obtain ⟨r2, hr2⟩ : ∃ r, U2 % y1 = r := ⟨_, rfl⟩
        rw [hq2, hr2] at HI2
        have hqI2 : (U2 : Int) / (y1 : Int) = (q2 : Int) := by rw [← hq2]; rfl
        obtain ⟨p2, hp2⟩ : ∃ p, q2 * y1 = p := ⟨_, rfl⟩
        have hpI2 : IntKind.u64.wrap ((q2 : Int) * (y1 : Int)) = (p2 : Int) := by
          rw [← Int.natCast_mul, hp2, IntKind.wrap_u64]
          have := HI2.out.1; rw [hp2] at this
          have := HU2.out.2; have := HP.out
          omega
        have hqb2 : (q2 : Int) ≤ 4294967297 := by have := HI2.out; omega
        have hle2 : (p2 : Int) ≤ (U2 : Int) := by have := HI2.out.1; rw [hp2] at this; omega
        have hsub2 : (U2 : Int) - (p2 : Int) = (r2 : Int) := by have := HI2.out.1; rw [hp2] at this; omega
        have hUI2 : (U2 : Int) ≤ 18446744073709551615 := by have := HU2.out.2; have := HP.out; omega
        have hy1I2 : (0 : Int) < (y1 : Int) := by omega
        have hy1z2 : ((y1 : Int) == 0) = false := by simp; omega
        have hq02 := HI2.out
        rw [hp2] at hq02
        have HE2 : Hid (U2 = q2 * y1 + r2 ∧ r2 < y1 ∧ q2 ≤ 4294967297) := Lib.hid (by have := HI2.out; exact this)
        clear hq2 hr2 hp2 HI2 hq02
        go_upto_region 24 with (fail)
        clear hqI2 hpI2 hsub2 hle2 hd5 hc5 hb5 ha5
        obtain ⟨Q2, hQ2⟩ : ∃ Q, (U2 * 4294967296 + u0) / v = Q := ⟨_, rfl⟩
        have HQ2 := Lib.hid hQ2
        have hQ2b : Q2 < 4294967296 := by rw [← hQ2]; exact Dv.quo_lt (by omega) (by have := HU3.out; omega)
        have hst3 : Q2 ≤ q2 := by
          have h := Dv.est_top (B := 4294967296) (y1 := y1) (y0 := y0) (U := U2) (u1 := u0) (by omega) (by omega)
          rw [q_of HE2.out.1 HE2.out.2.1, ← show v = y1 * 4294967296 + y0 from HD.out.1.1, HQ2.out] at h
          exact h
        have HQ2b := Lib.hid hQ2b
        have hQ2I : (Q2 : Int) ≤ 4294967295 := by omega
        have HS3 : Hid (Q2 ≤ q2 ∧ U2 = q2 * y1 + r2 ∧ q2 ≤ 4294967297) := Lib.hid ⟨hst3, HE2.out.1, HE2.out.2.2⟩
        have hr2I : (r2 : Int) < 4294967296 := by have := HE2.out; omega
        have hq2I : (q2 : Int) ≤ 4294967297 := by have := HE2.out; omega
        clear hQ2 hst3 HE2 hQ2b
        go_loop [18, 16] (fun a b => ∃ q r : Nat, Hid (Q2 ≤ q ∧ U2 = q * y1 + r ∧ q ≤ 4294967297) ∧ (q : Int) ≤ 4294967297 ∧ (r : Int) < 4294967296 ∧ a = .int .u64 q ∧ b = .int .u64 r) (fun _ b => (4294967296 - intOf b).toNat)
        case atStart => exact ⟨q2, r2, HS3, hq2I, hr2I, rfl, rfl⟩
        case round =>
          obtain ⟨q, r, HR, hqI, hrI, rfl, rfl⟩ := hrel
          clear HS3 hr2I hq2I
          have hv0 : 0 < y1 * 4294967296 + y0 := by have := HD.out.1.1; omega
          by_cases c1 : (4294967296 : Int) ≤ (q : Int)
          · have hQ1 : Q2 ≤ q - 1 := by have := HQ2b.out; omega
            by_cases hb : (4294967296 : Int) ≤ (r : Int) + (y1 : Int)
            · have he : (q : Int) - 1 = (Q2 : Int) := by
                have h := Dv.break_ok (B := 4294967296) (y1 := y1) (y0 := y0) (U := U2) (u1 := u0) (q := q - 1) (r := r + y1) hv0 (by omega) (Dv.down HR.out.2.1 (by omega)) (by rw [← show v = y1 * 4294967296 + y0 from HD.out.1.1, HQ2.out]; exact hQ1) (by omega) (by omega)
                rw [← show v = y1 * 4294967296 + y0 from HD.out.1.1, HQ2.out] at h
                omega
              clear hQ1 HR hv0
              go_upto_region 28 with (fail)
              clear he hb c1 hqI hrI
              obtain ⟨R2, hR2⟩ : ∃ R, (U2 * 4294967296 + u0) % v = R := ⟨_, rfl⟩
              have hdm6 : Q2 * v + R2 = U2 * 4294967296 + u0 := by rw [← HQ2.out, ← hR2, Nat.mul_comm]; exact Nat.div_add_mod _ _
              have hR2b : R2 < v := by rw [← hR2]; exact Nat.mod_lt _ (by have := HP.out; omega)
              have HR2 := Lib.hid (And.intro hR2 hR2b)
              obtain ⟨Y6, hY6⟩ : ∃ Y, Q2 * v = Y := ⟨_, rfl⟩
              rw [hY6] at hdm6
              obtain ⟨a6, ha6⟩ : ∃ a : Nat, IntKind.u64.wrap ((U2 : Int) * 4294967296) = (a : Int) := ⟨U2 * 4294967296 % 18446744073709551616, by rw [IntKind.wrap_u64]; omega⟩
              obtain ⟨b6, hb6⟩ : ∃ b : Nat, IntKind.u64.wrap ((a6 : Int) + (u0 : Int)) = (b : Int) := ⟨(a6 + u0) % 18446744073709551616, by rw [IntKind.wrap_u64]; omega⟩
              obtain ⟨c6, hc6⟩ : ∃ c : Nat, IntKind.u64.wrap ((Q2 : Int) * (v : Int)) = (c : Int) := ⟨Y6 % 18446744073709551616, by rw [← Int.natCast_mul, hY6, IntKind.wrap_u64]; omega⟩
              have hd6 : IntKind.u64.wrap ((b6 : Int) - (c6 : Int)) = (R2 : Int) := by
                have e3 := hc6
                rw [← Int.natCast_mul, hY6] at e3
                have e1 := ha6
                have e2 := hb6
                rw [IntKind.wrap_u64] at e1 e2 e3 ⊢
                have := HP.out
                omega
              clear hdm6 hY6 hR2
              have hR2I : (R2 : Int) ≤ 18446744073709551615 := by have := HP.out; omega
              have hfin : Q1 * 4294967296 + Q2 = (hi * 18446744073709551616 + lo) / y ∧ R2 / 2 ^ s = (hi * 18446744073709551616 + lo) % y := by
                have hs2 : 0 < 2 ^ s := Nat.pos_of_ne_zero (by simp)
                have h1 := Dv.scaled (N := hi * 18446744073709551616 + lo) (y := y) hs2
                have h2 := HWD.out.1
                have h3 := HWD.out.2.2.2.2
                rw [h3] at h1
                have h4 := Dv.two_digits (B := 4294967296) (v := v) (U := U) (u1 := u1) (u0 := u0) (by have := HP.out; omega) (by decide) (by omega)
                rw [HQ1.out, HU2.out.1, HQ2.out, HR2.out.1] at h4
                have h5 : (hi * 18446744073709551616 + lo) * 2 ^ s = (U * 4294967296 + u1) * 4294967296 + u0 := by
                  have h6 : (hi * 18446744073709551616 + lo) * 2 ^ s = U * 2 ^ 64 + L := h2
                  rw [h6, Nat.add_mul, Nat.mul_assoc]
                  have := HD.out.2
                  omega
                rw [h5, h4.1, h4.2] at h1
                exact ⟨h1.1, h1.2⟩
              have e1 : (RQ : Int) = (Q1 : Int) * 4294967296 + (Q2 : Int) := by rw [← HRQ.out.1, ← hfin.1]; simp
              have e2 : (RR : Int) = (R2 : Int) / 2 ^ s := by rw [← HRQ.out.2, ← hfin.2, Int.natCast_ediv, Int.natCast_pow]; rfl
              have HFN := Lib.hid (And.intro e1 e2)
              clear hfin e1 e2
              go_wp2
              go_ret2
              rw [HFN.out.1, HFN.out.2]
              exact ⟨rfl, rfl⟩
            · have HN : Hid (Q2 ≤ q - 1 ∧ U2 = (q - 1) * y1 + (r + y1) ∧ q - 1 ≤ 4294967297) := Lib.hid ⟨hQ1, Dv.down HR.out.2.1 (by omega), by omega⟩
              have hb' : decide ((4294967296 : Int) ≤ (r : Int) + (y1 : Int)) = false ∧ Hid (¬ (4294967296 : Int) ≤ (r : Int) + (y1 : Int)) := ⟨by rw [decide_eq_false_iff_not]; exact hb, Lib.hid hb⟩
              obtain ⟨hb', HBb⟩ := hb'
              clear hQ1 HR hb hv0
              go_wp2
              go_round
              case rel => exact ⟨q - 1, r + y1, HN, by omega, by have := HBb.out; omega, by congr 1; omega, by congr 1⟩
              case measure => first | (simp [intOf]; done) | (simp [intOf]; omega)
          · obtain ⟨P, hP⟩ : ∃ P, q * y0 = P := ⟨_, rfl⟩
            have hPb : P ≤ 4294967295 * 4294967295 := by rw [← hP]; exact Nat.mul_le_mul (by omega) (by omega)
            have hPI : IntKind.u64.wrap ((q : Int) * (y0 : Int)) = (P : Int) := by rw [← Int.natCast_mul, hP, IntKind.wrap_u64]; omega
            have hqs : (q : Int) < 4294967296 := by omega
            have hP2 : (P : Int) ≤ 18446744065119617025 := by omega
            clear hPb c1
            by_cases c2 : (4294967296 : Int) * (r : Int) + (u0 : Int) < (P : Int)
            · have hQ1 : Q2 ≤ q - 1 := by
                have h := Dv.less_ok (B := 4294967296) (y1 := y1) (y0 := y0) (U := U2) (u1 := u0) hv0 HR.out.2.1 (by rw [hP]; omega)
                rw [← show v = y1 * 4294967296 + y0 from HD.out.1.1, HQ2.out] at h
                exact h
              have hq1 : 1 ≤ q := by
                rcases Nat.eq_zero_or_pos q with h | h
                · rw [h, Nat.zero_mul] at hP; omega
                · exact h
              have hq1I : (1 : Int) ≤ (q : Int) := by omega
              by_cases hb : (4294967296 : Int) ≤ (r : Int) + (y1 : Int)
              · have he : (q : Int) - 1 = (Q2 : Int) := by
                  have h := Dv.break_ok (B := 4294967296) (y1 := y1) (y0 := y0) (U := U2) (u1 := u0) (q := q - 1) (r := r + y1) hv0 (by omega) (Dv.down HR.out.2.1 (by omega)) (by rw [← show v = y1 * 4294967296 + y0 from HD.out.1.1, HQ2.out]; exact hQ1) (by omega) (by omega)
                  rw [← show v = y1 * 4294967296 + y0 from HD.out.1.1, HQ2.out] at h
                  omega
                clear hQ1 HR hq1 hP hv0
                go_upto_region 28 with (fail)
                clear he hb c2 hqI hrI hPI hP2 hqs hq1I
                obtain ⟨R2, hR2⟩ : ∃ R, (U2 * 4294967296 + u0) % v = R := ⟨_, rfl⟩
                have hdm6 : Q2 * v + R2 = U2 * 4294967296 + u0 := by rw [← HQ2.out, ← hR2, Nat.mul_comm]; exact Nat.div_add_mod _ _
                have hR2b : R2 < v := by rw [← hR2]; exact Nat.mod_lt _ (by have := HP.out; omega)
                have HR2 := Lib.hid (And.intro hR2 hR2b)
                obtain ⟨Y6, hY6⟩ : ∃ Y, Q2 * v = Y := ⟨_, rfl⟩
                rw [hY6] at hdm6
                obtain ⟨a6, ha6⟩ : ∃ a : Nat, IntKind.u64.wrap ((U2 : Int) * 4294967296) = (a : Int) := ⟨U2 * 4294967296 % 18446744073709551616, by rw [IntKind.wrap_u64]; omega⟩
                obtain ⟨b6, hb6⟩ : ∃ b : Nat, IntKind.u64.wrap ((a6 : Int) + (u0 : Int)) = (b : Int) := ⟨(a6 + u0) % 18446744073709551616, by rw [IntKind.wrap_u64]; omega⟩
                obtain ⟨c6, hc6⟩ : ∃ c : Nat, IntKind.u64.wrap ((Q2 : Int) * (v : Int)) = (c : Int) := ⟨Y6 % 18446744073709551616, by rw [← Int.natCast_mul, hY6, IntKind.wrap_u64]; omega⟩
                have hd6 : IntKind.u64.wrap ((b6 : Int) - (c6 : Int)) = (R2 : Int) := by
                  have e3 := hc6
                  rw [← Int.natCast_mul, hY6] at e3
                  have e1 := ha6
                  have e2 := hb6
                  rw [IntKind.wrap_u64] at e1 e2 e3 ⊢
                  have := HP.out
                  omega
                clear hdm6 hY6 hR2
                have hR2I : (R2 : Int) ≤ 18446744073709551615 := by have := HP.out; omega
                have hfin : Q1 * 4294967296 + Q2 = (hi * 18446744073709551616 + lo) / y ∧ R2 / 2 ^ s = (hi * 18446744073709551616 + lo) % y := by
                  have hs2 : 0 < 2 ^ s := Nat.pos_of_ne_zero (by simp)
                  have h1 := Dv.scaled (N := hi * 18446744073709551616 + lo) (y := y) hs2
                  have h2 := HWD.out.1
                  have h3 := HWD.out.2.2.2.2
                  rw [h3] at h1
                  have h4 := Dv.two_digits (B := 4294967296) (v := v) (U := U) (u1 := u1) (u0 := u0) (by have := HP.out; omega) (by decide) (by omega)
                  rw [HQ1.out, HU2.out.1, HQ2.out, HR2.out.1] at h4
                  have h5 : (hi * 18446744073709551616 + lo) * 2 ^ s = (U * 4294967296 + u1) * 4294967296 + u0 := by
                    have h6 : (hi * 18446744073709551616 + lo) * 2 ^ s = U * 2 ^ 64 + L := h2
                    rw [h6, Nat.add_mul, Nat.mul_assoc]
                    have := HD.out.2
                    omega
                  rw [h5, h4.1, h4.2] at h1
                  exact ⟨h1.1, h1.2⟩
                have e1 : (RQ : Int) = (Q1 : Int) * 4294967296 + (Q2 : Int) := by rw [← HRQ.out.1, ← hfin.1]; simp
                have e2 : (RR : Int) = (R2 : Int) / 2 ^ s := by rw [← HRQ.out.2, ← hfin.2, Int.natCast_ediv, Int.natCast_pow]; rfl
                have HFN := Lib.hid (And.intro e1 e2)
                clear hfin e1 e2
                go_wp2
                go_ret2
                rw [HFN.out.1, HFN.out.2]
                exact ⟨rfl, rfl⟩
              · have HN : Hid (Q2 ≤ q - 1 ∧ U2 = (q - 1) * y1 + (r + y1) ∧ q - 1 ≤ 4294967297) := Lib.hid ⟨hQ1, Dv.down HR.out.2.1 hq1, by omega⟩
                have hb' : decide ((4294967296 : Int) ≤ (r : Int) + (y1 : Int)) = false ∧ Hid (¬ (4294967296 : Int) ≤ (r : Int) + (y1 : Int)) := ⟨by rw [decide_eq_false_iff_not]; exact hb, Lib.hid hb⟩
                obtain ⟨hb', HBb⟩ := hb'
                clear hQ1 HR hb hP hv0
                go_wp2
                go_round
                case rel => exact ⟨q - 1, r + y1, HN, by omega, by have := HBb.out; omega, by congr 1; omega, by congr 1⟩
                case measure => first | (simp [intOf]; done) | (simp [intOf]; omega)
            · have he : q = Q2 := by
                have h := Dv.stop_ok (B := 4294967296) (y1 := y1) (y0 := y0) (U := U2) (u1 := u0) (q := q) (r := r) hv0 HR.out.2.1 (by rw [← show v = y1 * 4294967296 + y0 from HD.out.1.1, HQ2.out]; exact HR.out.1) (by rw [hP]; omega)
                rw [← show v = y1 * 4294967296 + y0 from HD.out.1.1, HQ2.out] at h
                exact h
              have c2' : decide ((4294967296 : Int) * (r : Int) + (u0 : Int) < (P : Int)) = false := by rw [decide_eq_false_iff_not]; exact c2
              have HE9 := Lib.hid he.symm
              have hqs' : decide ((4294967296 : Int) ≤ (q : Int)) = false := by rw [decide_eq_false_iff_not]; omega
              clear HR c2 hP hv0 he hqs
              go_upto_region 28 with (fail)
              clear c2' hqI hrI hPI hP2 hqs'
              have he2 := HE9.out
              clear HE9
              subst he2
              obtain ⟨R2, hR2⟩ : ∃ R, (U2 * 4294967296 + u0) % v = R := ⟨_, rfl⟩
              have hdm6 : Q2 * v + R2 = U2 * 4294967296 + u0 := by rw [← HQ2.out, ← hR2, Nat.mul_comm]; exact Nat.div_add_mod _ _
              have hR2b : R2 < v := by rw [← hR2]; exact Nat.mod_lt _ (by have := HP.out; omega)
              have HR2 := Lib.hid (And.intro hR2 hR2b)
              obtain ⟨Y6, hY6⟩ : ∃ Y, Q2 * v = Y := ⟨_, rfl⟩
              rw [hY6] at hdm6
              obtain ⟨a6, ha6⟩ : ∃ a : Nat, IntKind.u64.wrap ((U2 : Int) * 4294967296) = (a : Int) := ⟨U2 * 4294967296 % 18446744073709551616, by rw [IntKind.wrap_u64]; omega⟩
              obtain ⟨b6, hb6⟩ : ∃ b : Nat, IntKind.u64.wrap ((a6 : Int) + (u0 : Int)) = (b : Int) := ⟨(a6 + u0) % 18446744073709551616, by rw [IntKind.wrap_u64]; omega⟩
              obtain ⟨c6, hc6⟩ : ∃ c : Nat, IntKind.u64.wrap ((Q2 : Int) * (v : Int)) = (c : Int) := ⟨Y6 % 18446744073709551616, by rw [← Int.natCast_mul, hY6, IntKind.wrap_u64]; omega⟩
              have hd6 : IntKind.u64.wrap ((b6 : Int) - (c6 : Int)) = (R2 : Int) := by
                have e3 := hc6
                rw [← Int.natCast_mul, hY6] at e3
                have e1 := ha6
                have e2 := hb6
                rw [IntKind.wrap_u64] at e1 e2 e3 ⊢
                have := HP.out
                omega
              clear hdm6 hY6 hR2
              have hR2I : (R2 : Int) ≤ 18446744073709551615 := by have := HP.out; omega
              have hfin : Q1 * 4294967296 + Q2 = (hi * 18446744073709551616 + lo) / y ∧ R2 / 2 ^ s = (hi * 18446744073709551616 + lo) % y := by
                have hs2 : 0 < 2 ^ s := Nat.pos_of_ne_zero (by simp)
                have h1 := Dv.scaled (N := hi * 18446744073709551616 + lo) (y := y) hs2
                have h2 := HWD.out.1
                have h3 := HWD.out.2.2.2.2
                rw [h3] at h1
                have h4 := Dv.two_digits (B := 4294967296) (v := v) (U := U) (u1 := u1) (u0 := u0) (by have := HP.out; omega) (by decide) (by omega)
                rw [HQ1.out, HU2.out.1, HQ2.out, HR2.out.1] at h4
                have h5 : (hi * 18446744073709551616 + lo) * 2 ^ s = (U * 4294967296 + u1) * 4294967296 + u0 := by
                  have h6 : (hi * 18446744073709551616 + lo) * 2 ^ s = U * 2 ^ 64 + L := h2
                  rw [h6, Nat.add_mul, Nat.mul_assoc]
                  have := HD.out.2
                  omega
                rw [h5, h4.1, h4.2] at h1
                exact ⟨h1.1, h1.2⟩
              have e1 : (RQ : Int) = (Q1 : Int) * 4294967296 + (Q2 : Int) := by rw [← HRQ.out.1, ← hfin.1]; simp
              have e2 : (RR : Int) = (R2 : Int) / 2 ^ s := by rw [← HRQ.out.2, ← hfin.2, Int.natCast_ediv, Int.natCast_pow]; rfl
              have HFN := Lib.hid (And.intro e1 e2)
              clear hfin e1 e2
              go_wp2
              go_ret2
              rw [HFN.out.1, HFN.out.2]
              exact ⟨rfl, rfl⟩
end W1
end Go.Proofs.YtebfecnpkifgeaaDoor
