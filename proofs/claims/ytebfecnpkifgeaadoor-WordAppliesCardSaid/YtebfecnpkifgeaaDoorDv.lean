/-
  Plain facts: long division by digits and by bits, powers, bits, signed quotients. Own work.
-/
namespace Go.Proofs.YtebfecnpkifgeaaDoor
set_option linter.unusedVariables false
namespace Dv
/-- One digit of a long division: B the base, v = y1 * B + y0, u = U * B + u1. -/
theorem est_top {B y1 y0 U u1 : Nat} (hu1 : u1 < B) (hy1 : 0 < y1) : (U * B + u1) / (y1 * B + y0) ≤ U / y1 := by
  have hv : 0 < y1 * B + y0 := by
    have : 0 < y1 * B := Nat.mul_pos hy1 (by omega)
    omega
  have h1 : U < (U / y1 + 1) * y1 := by
    have := Nat.lt_div_mul_add (a := U) hy1
    rw [Nat.add_mul, Nat.one_mul]; omega
  have h2 : (U + 1) * B ≤ (U / y1 + 1) * y1 * B := Nat.mul_le_mul_right _ h1
  have h3 : (U / y1 + 1) * y1 * B ≤ (U / y1 + 1) * (y1 * B + y0) := by
    rw [Nat.mul_add, ← Nat.mul_assoc]; omega
  have h4 : U * B + u1 < (U / y1 + 1) * (y1 * B + y0) := by
    have : (U + 1) * B = U * B + B := by rw [Nat.add_mul, Nat.one_mul]
    omega
  have h5 := (Nat.div_lt_iff_lt_mul hv).2 h4
  omega
theorem est_small {B y1 y0 U : Nat} (hy0 : y0 < B) (hy : B ≤ 2 * y1) (hU : U < y1 * B + y0) : U / y1 ≤ B + 1 := by
  rcases Nat.lt_or_ge (U / y1) (B + 2) with h | h
  · omega
  · exfalso
    have h1 := Nat.div_mul_le_self U y1
    have h2 : (B + 2) * y1 ≤ U / y1 * y1 := Nat.mul_le_mul_right _ h
    have h3 : (B + 2) * y1 = y1 * B + 2 * y1 := by rw [Nat.add_mul, Nat.mul_comm B y1]
    omega
theorem quo_lt {B v U u1 : Nat} (hu1 : u1 < B) (hU : U < v) : (U * B + u1) / v < B := by
  have hv : 0 < v := by omega
  rw [Nat.div_lt_iff_lt_mul hv]
  have h1 : (U + 1) * B ≤ v * B := Nat.mul_le_mul_right _ hU
  rw [Nat.add_mul, Nat.one_mul, Nat.mul_comm v B] at h1
  omega
/-- q * v against u, where U = q * y1 + r. -/
theorem prod_eq {B y1 y0 q r u1 : Nat} : q * (y1 * B + y0) + (B * r + u1) = (q * y1 + r) * B + u1 + q * y0 := by
  have e1 : q * (y1 * B + y0) = q * y1 * B + q * y0 := by rw [Nat.mul_add, Nat.mul_assoc]
  have e2 : (q * y1 + r) * B = q * y1 * B + r * B := Nat.add_mul _ _ _
  have e3 : B * r = r * B := Nat.mul_comm _ _
  omega
theorem stop_ok {B y1 y0 U u1 q r : Nat} (hv : 0 < y1 * B + y0) (hU : U = q * y1 + r) (hq : (U * B + u1) / (y1 * B + y0) ≤ q) (hc : q * y0 ≤ B * r + u1) : q = (U * B + u1) / (y1 * B + y0) := by
  have h := prod_eq (B := B) (y1 := y1) (y0 := y0) (q := q) (r := r) (u1 := u1)
  rw [← hU] at h
  have : q ≤ (U * B + u1) / (y1 * B + y0) := (Nat.le_div_iff_mul_le hv).2 (by omega)
  omega
theorem less_ok {B y1 y0 U u1 q r : Nat} (hv : 0 < y1 * B + y0) (hU : U = q * y1 + r) (hc : B * r + u1 < q * y0) : (U * B + u1) / (y1 * B + y0) ≤ q - 1 := by
  have h := prod_eq (B := B) (y1 := y1) (y0 := y0) (q := q) (r := r) (u1 := u1)
  rw [← hU] at h
  have : (U * B + u1) / (y1 * B + y0) < q := (Nat.div_lt_iff_lt_mul hv).2 (by omega)
  omega
theorem break_ok {B y1 y0 U u1 q r : Nat} (hv : 0 < y1 * B + y0) (hy0 : y0 < B) (hU : U = q * y1 + r) (hq : (U * B + u1) / (y1 * B + y0) ≤ q) (hqB : q ≤ B) (hr : B ≤ r) : q = (U * B + u1) / (y1 * B + y0) := by
  refine stop_ok hv hU hq ?_
  have h1 : q * y0 ≤ B * B := Nat.mul_le_mul hqB (by omega)
  have h2 : B * B ≤ B * r := Nat.mul_le_mul_left _ hr
  omega
theorem down {U q y1 r : Nat} (hU : U = q * y1 + r) (hq : 0 < q) : U = (q - 1) * y1 + (r + y1) := by
  obtain ⟨k, rfl⟩ : ∃ k, q = k + 1 := ⟨q - 1, by omega⟩
  rw [hU, Nat.add_sub_cancel, Nat.add_mul, Nat.one_mul]; omega
/-- Both digits. -/
theorem two_digits {B v U u1 u0 : Nat} (hv : 0 < v) (hB : 0 < B) (hu0 : u0 < B) :
    ((U * B + u1) * B + u0) / v = (U * B + u1) / v * B + ((U * B + u1) % v * B + u0) / v ∧ ((U * B + u1) * B + u0) % v = ((U * B + u1) % v * B + u0) % v := by
  generalize U * B + u1 = W
  have h := Nat.div_add_mod W v
  have e : W * B + u0 = W / v * B * v + (W % v * B + u0) := by
    have : W * B = (v * (W / v) + W % v) * B := by rw [h]
    rw [this, Nat.add_mul]
    have e2 : v * (W / v) * B = W / v * B * v := by rw [Nat.mul_comm v, Nat.mul_assoc, Nat.mul_comm v B, ← Nat.mul_assoc]
    omega
  have e3 : W * B + u0 = (W % v * B + u0) + W / v * B * v := by omega
  rw [e3]
  exact ⟨by rw [Nat.add_mul_div_right _ _ hv]; omega, Nat.add_mul_mod_self_right _ _ _⟩
/-- Made greater, both by the same factor. -/
theorem scaled {N y s : Nat} (hs : 0 < s) : N * s / (y * s) = N / y ∧ N * s % (y * s) / s = N % y := by
  constructor
  · exact Nat.mul_div_mul_right _ _ hs
  · rw [Nat.mul_mod_mul_right, Nat.mul_div_cancel _ hs]
/-- The shifted dividend's words. -/
theorem words {hi lo s : Nat} (hlo : lo < 2 ^ 64) (hs : s ≤ 64) : (hi * 2 ^ 64 + lo) * 2 ^ s = (hi * 2 ^ s + lo / 2 ^ (64 - s)) * 2 ^ 64 + lo * 2 ^ s % 2 ^ 64 := by
  have e1 : 2 ^ 64 = 2 ^ (64 - s) * 2 ^ s := by rw [← Nat.pow_add]; congr 1; omega
  have e2 : lo * 2 ^ s % 2 ^ 64 = lo % 2 ^ (64 - s) * 2 ^ s := by rw [e1, Nat.mul_mod_mul_right]
  have e3 := Nat.div_add_mod lo (2 ^ (64 - s))
  rw [e2, Nat.add_mul, Nat.add_mul]
  have e4 : lo * 2 ^ s = lo / 2 ^ (64 - s) * 2 ^ 64 + lo % 2 ^ (64 - s) * 2 ^ s := by
    calc lo * 2 ^ s = (2 ^ (64 - s) * (lo / 2 ^ (64 - s)) + lo % 2 ^ (64 - s)) * 2 ^ s := by rw [e3]
      _ = 2 ^ (64 - s) * (lo / 2 ^ (64 - s)) * 2 ^ s + lo % 2 ^ (64 - s) * 2 ^ s := Nat.add_mul _ _ _
      _ = lo / 2 ^ (64 - s) * 2 ^ 64 + lo % 2 ^ (64 - s) * 2 ^ s := by rw [e1, Nat.mul_comm (2 ^ (64 - s)), Nat.mul_assoc]
  have e5 : hi * 2 ^ 64 * 2 ^ s = hi * 2 ^ s * 2 ^ 64 := by rw [Nat.mul_assoc, Nat.mul_comm (2 ^ 64), ← Nat.mul_assoc]
  omega
/-- The bits that come from the low word lie below those of the high one. -/
theorem low_lt {lo s : Nat} (hlo : lo < 2 ^ 64) (hs : s ≤ 64) : lo / 2 ^ (64 - s) < 2 ^ s := by
  have e1 : 2 ^ 64 = 2 ^ (64 - s) * 2 ^ s := by rw [← Nat.pow_add]; congr 1; omega
  exact Nat.div_lt_of_lt_mul (by rw [← e1]; exact hlo)
end Dv
namespace Dv
/-- One bit more of a long division. -/
theorem bit_step {t b n : Nat} (hn : 0 < n) (hb : b < 2) : (2 * t + b) / n = 2 * (t / n) + (if n ≤ 2 * (t % n) + b then 1 else 0) ∧ (2 * t + b) % n = (if n ≤ 2 * (t % n) + b then 2 * (t % n) + b - n else 2 * (t % n) + b) := by
  have h := Nat.div_add_mod t n
  have hm := Nat.mod_lt t hn
  generalize t / n = q at *
  generalize t % n = r at *
  have e : 2 * t + b = (2 * r + b) + n * (2 * q) := by
    rw [← h, Nat.mul_add, Nat.mul_left_comm]; omega
  rw [e, Nat.add_mul_div_left _ _ hn, Nat.add_mul_mod_self_left]
  by_cases hc : n ≤ 2 * r + b
  · rw [if_pos hc, if_pos hc]
    have e2 : 2 * r + b = (2 * r + b - n) + n * 1 := by omega
    have h3 : 2 * r + b - n < n := by omega
    constructor
    · rw [e2, Nat.add_mul_div_left _ _ hn, Nat.div_eq_of_lt h3]; omega
    · rw [e2, Nat.add_mul_mod_self_left, Nat.mod_eq_of_lt h3]; omega
  · rw [if_neg hc, if_neg hc]
    have h3 : 2 * r + b < n := by omega
    exact ⟨by rw [Nat.div_eq_of_lt h3]; omega, Nat.mod_eq_of_lt h3⟩
/-- The next bit of a number, from above. -/
theorem top_step (N i : Nat) : N / 2 ^ i = 2 * (N / 2 ^ (i + 1)) + N / 2 ^ i % 2 := by
  rw [Nat.pow_succ, ← Nat.div_div_eq_div_mul]; omega
theorem bit_hi {h l i : Nat} (hl : l < 2 ^ 64) (hi : 64 ≤ i) : (h * 2 ^ 64 + l) / 2 ^ i % 2 = h / 2 ^ (i - 64) % 2 := by
  have e : 2 ^ i = 2 ^ 64 * 2 ^ (i - 64) := by rw [← Nat.pow_add]; congr 1; omega
  rw [e, ← Nat.div_div_eq_div_mul, Nat.mul_comm h, Nat.mul_add_div (by decide), Nat.div_eq_of_lt hl, Nat.add_zero]
theorem bit_lo {h l i : Nat} (hi : i < 64) : (h * 2 ^ 64 + l) / 2 ^ i % 2 = l / 2 ^ i % 2 := by
  have e : h * 2 ^ 64 = 2 ^ i * (2 * (h * 2 ^ (63 - i))) := by
    have : 2 ^ 64 = 2 ^ i * (2 * 2 ^ (63 - i)) := by rw [← Nat.pow_succ', ← Nat.pow_add]; congr 1; omega
    rw [this]
    rw [Nat.mul_left_comm h, Nat.mul_left_comm h 2]
  rw [e, Nat.mul_add_div (Nat.pos_of_ne_zero (by simp)), Nat.add_comm, Nat.add_mul_mod_self_left]
/-- A number's lowest k bits and the next one. -/
theorem mod_succ (T k : Nat) : T % 2 ^ (k + 1) = T % 2 ^ k + (if T.testBit k then 2 ^ k else 0) := by
  rw [Nat.mod_pow_succ, Nat.testBit_eq_decide_div_mod_eq]
  rcases Nat.mod_two_eq_zero_or_one (T / 2 ^ k) with h | h <;> simp [h]
theorem or_add {a k : Nat} (h : a < 2 ^ k) : a ||| 2 ^ k = a + 2 ^ k := by
  have := Nat.two_pow_add_eq_or_of_lt h 1
  rw [Nat.mul_one] at this
  rw [Nat.or_comm, ← this, Nat.add_comm]
end Dv
namespace Dv
/-- The five operations that turn bits, on naturals. -/
def nshl (a b : Nat) : Nat := b * 2 ^ min a 64 % 2 ^ 64
def nshr (a b : Nat) : Nat := b / 2 ^ min a 64
def nsar (a b : Nat) : Nat := if b < 2 ^ 63 then b / 2 ^ min a 64 else 2 ^ 64 - ((2 ^ 64 - (b + 1)) / 2 ^ min a 64 + 1)
def nsext (a b : Nat) : Nat := if 7 ≤ a then b else nsar (56 - 8 * a) (nshl (56 - 8 * a) b)
def nbyte (a b : Nat) : Nat := if 7 < a then 0 else b / 2 ^ (56 - 8 * a) % 256
theorem big_bit {b i : Nat} (hb : b < 2 ^ 64) (hi : 64 ≤ i) : b.testBit i = false :=
  Nat.testBit_lt_two_pow (Nat.lt_of_lt_of_le hb (Nat.pow_le_pow_right (by decide) hi))
theorem nshl_bit {a b i : Nat} (hi : i < 64) : (nshl a b).testBit i = (decide (a ≤ i) && b.testBit (i - a)) := by
  unfold nshl
  rw [Nat.testBit_mod_two_pow, Nat.testBit_mul_two_pow]
  by_cases h : a ≤ i
  · rw [show min a 64 = a by omega]; simp [hi, h]
  · have : ¬ min a 64 ≤ i := by omega
    simp [h, this]
theorem nshr_bit {a b i : Nat} (hb : b < 2 ^ 64) (hi : i < 64) : (nshr a b).testBit i = (decide (i + a < 64) && b.testBit (i + a)) := by
  unfold nshr
  rw [Nat.testBit_div_two_pow]
  by_cases h : i + a < 64
  · rw [show min a 64 = a by omega, Nat.add_comm i a]; simp [show a + i < 64 by omega]
  · rw [big_bit hb (by omega)]; simp [h]
theorem top_bit {b : Nat} (hb : b < 2 ^ 64) : b.testBit 63 = decide (2 ^ 63 ≤ b) := by
  rw [Nat.testBit_eq_decide_div_mod_eq]
  by_cases h : 2 ^ 63 ≤ b
  · have e : b / 2 ^ 63 = 1 := by omega
    simp [e, h]
  · have e : b / 2 ^ 63 = 0 := by omega
    simp [e, h]
theorem nsar_bit {a b i : Nat} (hb : b < 2 ^ 64) (hi : i < 64) : (nsar a b).testBit i = (if i + a < 64 then b.testBit (i + a) else b.testBit 63) := by
  unfold nsar
  have ht := top_bit hb
  by_cases h : b < 2 ^ 63
  · rw [if_pos h]
    have := nshr_bit (a := a) hb hi
    unfold nshr at this
    rw [this]
    split
    · rename_i h2; simp [h2]
    · rename_i h2; rw [ht]; simp [h2]; omega
  · rw [if_neg h]
    have h1 : (2 ^ 64 - (b + 1)) / 2 ^ min a 64 < 2 ^ 64 := Nat.lt_of_le_of_lt (Nat.div_le_self _ _) (by omega)
    rw [Nat.testBit_two_pow_sub_succ h1, Nat.testBit_div_two_pow, Nat.testBit_two_pow_sub_succ hb]
    by_cases h2 : i + a < 64
    · rw [if_pos h2, show min a 64 = a by omega, Nat.add_comm i a]
      simp [hi, show a + i < 64 by omega]
    · rw [if_neg h2, ht]
      generalize hm : min a 64 = m
      have h3 : decide (i + m < 64) = false := by rw [decide_eq_false_iff_not]; omega
      rw [h3]
      simp [hi]; omega
theorem nshl_lt (a b : Nat) : nshl a b < 2 ^ 64 := Nat.mod_lt _ (by decide)
theorem nsext_bit {a b i : Nat} (hi : i < 64) : (nsext a b).testBit i = b.testBit (if a < 8 then min i (8 * a + 7) else i) := by
  unfold nsext
  by_cases h : 7 ≤ a
  · rw [if_pos h]
    by_cases h8 : a < 8
    · rw [if_pos h8, show min i (8 * a + 7) = i by omega]
    · rw [if_neg h8]
  · rw [if_neg h, if_pos (by omega), nsar_bit (nshl_lt _ _) hi]
    by_cases h2 : i + (56 - 8 * a) < 64
    · rw [if_pos h2, nshl_bit h2, show min i (8 * a + 7) = i by omega]
      simp
    · rw [if_neg h2, nshl_bit (by decide), show min i (8 * a + 7) = 63 - (56 - 8 * a) by omega]
      simp; omega
theorem nbyte_bit {a b i : Nat} : (nbyte a b).testBit i = (decide (i < 8) && decide (a < 8) && b.testBit (56 - 8 * min a 7 + i)) := by
  unfold nbyte
  by_cases h : 7 < a
  · rw [if_pos h]; simp; omega
  · rw [if_neg h, show (256 : Nat) = 2 ^ 8 by decide, Nat.testBit_mod_two_pow, Nat.testBit_div_two_pow, show min a 7 = a by omega]
    simp [show a < 8 by omega, Nat.add_comm]
end Dv
namespace Dv
theorem pow_sq (a t M : Nat) : (a ^ t % M) * (a ^ t % M) % M = a ^ (2 * t) % M := by
  rw [← Nat.mul_mod, ← Nat.pow_add, Nat.two_mul]
theorem pow_one (a t M : Nat) : a ^ t % M * a % M = a ^ (t + 1) % M := by
  rw [Nat.pow_succ, Nat.mod_mul_mod]
/-- The school method on halves of 32 bits, as the document's words go. -/
theorem wide_words (x y : Nat) (hx : x < 18446744073709551616) (hy : y < 18446744073709551616) :
    (x % 4294967296) * (y % 4294967296) < 18446744073709551616 ∧
    (x / 4294967296) * (y % 4294967296) + (x % 4294967296) * (y % 4294967296) / 4294967296 < 18446744073709551616 ∧
    (x % 4294967296) * (y / 4294967296) + ((x / 4294967296) * (y % 4294967296) + (x % 4294967296) * (y % 4294967296) / 4294967296) % 4294967296 < 18446744073709551616 ∧
    (x / 4294967296) * (y / 4294967296) < 18446744073709551616 ∧
    (x / 4294967296) * (y / 4294967296) + ((x / 4294967296) * (y % 4294967296) + (x % 4294967296) * (y % 4294967296) / 4294967296) / 4294967296 < 18446744073709551616 ∧
    (x / 4294967296) * (y / 4294967296) + ((x / 4294967296) * (y % 4294967296) + (x % 4294967296) * (y % 4294967296) / 4294967296) / 4294967296 +
      ((x % 4294967296) * (y / 4294967296) + ((x / 4294967296) * (y % 4294967296) + (x % 4294967296) * (y % 4294967296) / 4294967296) % 4294967296) / 4294967296 = x * y / 18446744073709551616 ∧
    ((x % 4294967296) * (y / 4294967296) + ((x / 4294967296) * (y % 4294967296) + (x % 4294967296) * (y % 4294967296) / 4294967296) % 4294967296) % 4294967296 * 4294967296 + (x % 4294967296) * (y % 4294967296) % 4294967296 = x * y % 18446744073709551616 := by
  have e : x * y = (x / 4294967296) * (y / 4294967296) * 18446744073709551616 + ((x / 4294967296) * (y % 4294967296) + (x % 4294967296) * (y / 4294967296)) * 4294967296 + (x % 4294967296) * (y % 4294967296) := by
    have h1 : x * y = ((x / 4294967296) * 4294967296 + x % 4294967296) * ((y / 4294967296) * 4294967296 + y % 4294967296) := by rw [Nat.div_add_mod' x 4294967296, Nat.div_add_mod' y 4294967296]
    rw [h1]
    generalize x / 4294967296 = x1
    generalize x % 4294967296 = x0
    generalize y / 4294967296 = y1
    generalize y % 4294967296 = y0
    rw [Nat.add_mul, Nat.mul_add, Nat.mul_add, Nat.mul_mul_mul_comm, Nat.mul_right_comm x1 4294967296 y0, ← Nat.mul_assoc x0 y1 4294967296]
    omega
  have ha : (x / 4294967296) * (y / 4294967296) ≤ 4294967295 * 4294967295 := Nat.mul_le_mul (by omega) (by omega)
  have hb : (x / 4294967296) * (y % 4294967296) ≤ 4294967295 * 4294967295 := Nat.mul_le_mul (by omega) (by omega)
  have hc : (x % 4294967296) * (y / 4294967296) ≤ 4294967295 * 4294967295 := Nat.mul_le_mul (by omega) (by omega)
  have hd : (x % 4294967296) * (y % 4294967296) ≤ 4294967295 * 4294967295 := Nat.mul_le_mul (by omega) (by omega)
  rw [e]
  generalize (x / 4294967296) * (y / 4294967296) = a at *
  generalize (x / 4294967296) * (y % 4294967296) = b at *
  generalize (x % 4294967296) * (y / 4294967296) = c at *
  generalize (x % 4294967296) * (y % 4294967296) = d at *
  refine ⟨by omega, by omega, by omega, by omega, by omega, by omega, by omega⟩
/-- A signed word. -/
def sgn (a : Nat) : Int := if a < 9223372036854775808 then a else (a : Int) - 18446744073709551616
def mag (a : Nat) : Nat := if a < 9223372036854775808 then a else 18446744073709551616 - a
theorem sdiv_mag (a b : Nat) (ha : a < 18446744073709551616) (hb : b < 18446744073709551616) :
    (sgn a).tdiv (sgn b) % 18446744073709551616 = if (9223372036854775808 ≤ a) = (9223372036854775808 ≤ b) then ((mag a / mag b : Nat) : Int) else (0 - ((mag a / mag b : Nat) : Int)) % 18446744073709551616 := by
  have hm : mag a / mag b ≤ mag a := Nat.div_le_self _ _
  have hA : mag a ≤ 9223372036854775808 := by unfold mag; split <;> omega
  have key : ∀ m n : Nat, (m : Int).tdiv n = ((m / n : Nat) : Int) := fun m n => rfl
  by_cases h1 : a < 9223372036854775808 <;> by_cases h2 : b < 9223372036854775808
  · have e1 : sgn a = (mag a : Int) := by unfold sgn mag; rw [if_pos h1, if_pos h1]
    have e2 : sgn b = (mag b : Int) := by unfold sgn mag; rw [if_pos h2, if_pos h2]
    rw [e1, e2, key, if_pos (by simp; omega)]; generalize mag a / mag b = q at *; omega
  · have e1 : sgn a = (mag a : Int) := by unfold sgn mag; rw [if_pos h1, if_pos h1]
    have e2 : sgn b = -(mag b : Int) := by unfold sgn mag; rw [if_neg h2, if_neg h2]; omega
    rw [e1, e2, Int.tdiv_neg, key, if_neg (by simp; omega)]; omega
  · have e1 : sgn a = -(mag a : Int) := by unfold sgn mag; rw [if_neg h1, if_neg h1]; omega
    have e2 : sgn b = (mag b : Int) := by unfold sgn mag; rw [if_pos h2, if_pos h2]
    rw [e1, e2, Int.neg_tdiv, key, if_neg (by simp; omega)]; omega
  · have e1 : sgn a = -(mag a : Int) := by unfold sgn mag; rw [if_neg h1, if_neg h1]; omega
    have e2 : sgn b = -(mag b : Int) := by unfold sgn mag; rw [if_neg h2, if_neg h2]; omega
    rw [e1, e2, Int.neg_tdiv, Int.tdiv_neg, Int.neg_neg, key, if_pos (by simp; omega)]; generalize mag a / mag b = q at *; omega
theorem smod_mag (a b : Nat) (ha : a < 18446744073709551616) (hb : b < 18446744073709551616) :
    (sgn a).tmod (sgn b) % 18446744073709551616 = if 9223372036854775808 ≤ a then (0 - ((mag a % mag b : Nat) : Int)) % 18446744073709551616 else ((mag a % mag b : Nat) : Int) := by
  have hm : mag a % mag b ≤ mag a := Nat.mod_le _ _
  have hA : mag a ≤ 9223372036854775808 := by unfold mag; split <;> omega
  have key : ∀ m n : Nat, (m : Int).tmod n = ((m % n : Nat) : Int) := fun m n => rfl
  have e2 : ∀ x : Int, x.tmod (sgn b) = x.tmod (mag b : Int) := fun x => by
    unfold sgn mag; split
    · rfl
    · rename_i h
      rw [show ((18446744073709551616 - b : Nat) : Int) = -((b : Int) - 18446744073709551616) by omega, Int.tmod_neg]
  rw [e2]
  by_cases h1 : a < 9223372036854775808
  · have e1 : sgn a = (mag a : Int) := by unfold sgn mag; rw [if_pos h1, if_pos h1]
    rw [e1, key, if_neg (by omega)]; generalize mag a % mag b = q at *; omega
  · have e1 : sgn a = -(mag a : Int) := by unfold sgn mag; rw [if_neg h1, if_neg h1]; omega
    rw [e1, Int.neg_tmod, key, if_pos (by omega)]; generalize mag a % mag b = q at *; omega
end Dv
end Go.Proofs.YtebfecnpkifgeaaDoor
