/-
  Layer 1: whole products, quotients of two words by one, rests; the program's and the document's. Own work.
-/
import Derived.Test.YtebfecnpkifgeaaDoorDiv
import Derived.Test.YtebfecnpkifgeaaDoorWuF
namespace Go.Proofs.YtebfecnpkifgeaaDoor
open Go.RowKit
set_option linter.unusedVariables false
namespace W1
theorem div64_any (hi lo y : Nat) (w : World) (hlo : lo < 18446744073709551616) (hhy : hi < y) (hy : y < 18446744073709551616) :
    Calls Tryd.prog 30 #[.int .u64 hi, .int .u64 lo, .int .u64 y] w fun e w' => e = .returned (.tuple #[.int .u64 (((hi * 18446744073709551616 + lo) / y : Nat) : Int), .int .u64 (((hi * 18446744073709551616 + lo) % y : Nat) : Int)]) ∧ ∃ n, w' = w.drewN n := by
  rcases Nat.eq_zero_or_pos hi with h | h
  · subst h
    rw [Nat.zero_mul, Nat.zero_add]
    exact div64_small lo y w hlo (by omega) hy
  · refine (div64_great hi lo y w hlo h hhy hy).mono ?_
    rintro e w' ⟨rfl, rfl⟩
    exact ⟨rfl, 0, rfl⟩
theorem rem64_any (hi lo y : Nat) (w : World) (hhi : hi < 18446744073709551616) (hlo : lo < 18446744073709551616) (hy0 : 0 < y) (hy : y < 18446744073709551616) :
    Calls Tryd.prog 49 #[.int .u64 hi, .int .u64 lo, .int .u64 y] w fun e w' => e = .returned (.int .u64 (((hi * 18446744073709551616 + lo) % y : Nat) : Int)) ∧ ∃ n, w' = w.drewN n := by
  have hm := Nat.mod_lt hi hy0
  have HD := Lib.hid (div64_any (hi % y) lo y w hlo hm hy)
  have hz : ((y : Int) == 0) = false := by simp; omega
  have hhI : (hi : Int) ≤ 18446744073709551615 := by omega
  have hyI : (y : Int) ≤ 18446744073709551615 := by omega
  have hy0I : (0 : Int) < (y : Int) := by omega
  obtain ⟨m, hm2⟩ : ∃ m, hi % y = m := ⟨_, rfl⟩
  have hmI : (hi : Int) % (y : Int) = (m : Int) := by rw [← hm2]; rfl
  rw [hm2] at HD
  have hr : (m * 18446744073709551616 + lo) % y = (hi * 18446744073709551616 + lo) % y := by
    rw [← hm2, Nat.add_mod, Nat.mul_mod, Nat.mod_mod, ← Nat.mul_mod, ← Nat.add_mod]
  rw [← hr]
  have hmb : (m : Int) ≤ 18446744073709551615 := by omega
  obtain ⟨R, hR⟩ : ∃ R, (m * 18446744073709551616 + lo) % y = R := ⟨_, rfl⟩
  obtain ⟨Q, hQ⟩ : ∃ R, (m * 18446744073709551616 + lo) / y = R := ⟨_, rfl⟩
  rw [hR]
  rw [hR, hQ] at HD
  clear hm hm2 hr hhi hlo hy hy0 hR hQ
  go_enter Tryd.func49, Tryd.ntmps49
  go_wp2_with (go_at_call 30; (with_reducible refine HD.out.mono ?_); rintro e w' ⟨rfl, n, rfl⟩)
  go_ret
  exact ⟨rfl, n, rfl⟩
theorem split_bad (h l n : Nat) (w : World) (hn : n ≤ h) :
    Calls Tryd.prog 16 #[.int .u64 h, .int .u64 l, .int .u64 n] w fun e w' => e = .returned (.tuple #[.int .u64 0, .int .u64 0, .iface 22 (.int .i64 2)]) ∧ w = w' := by
  have hd : decide (n ≤ h) = true := by simpa using hn
  go_enter Tryd.func16, Tryd.ntmps16
  go_wp2
  refine bodyPost_ret (v := .tuple #[.int .u64 0, .int .u64 0, .iface 22 (.int .i64 2)]) (by simp [results, Tryd.results16, go_sem]) rfl ⟨rfl, rfl⟩
theorem split_ok (h l n : Nat) (w : World) (hl : l < 18446744073709551616) (hn : h < n) (hn2 : n < 18446744073709551616) :
    Calls Tryd.prog 16 #[.int .u64 h, .int .u64 l, .int .u64 n] w fun e w' => e = .returned (.tuple #[.int .u64 (((h * 18446744073709551616 + l) / n : Nat) : Int), .int .u64 (((h * 18446744073709551616 + l) % n : Nat) : Int), .nilIface]) ∧ ∃ k, w' = w.drewN k := by
  have HD := Lib.hid (div64_any h l n w hl hn hn2)
  have hd : decide (n ≤ h) = false := by rw [decide_eq_false_iff_not]; omega
  obtain ⟨R, hR⟩ : ∃ R, (h * 18446744073709551616 + l) % n = R := ⟨_, rfl⟩
  obtain ⟨Q, hQ⟩ : ∃ R, (h * 18446744073709551616 + l) / n = R := ⟨_, rfl⟩
  rw [hR, hQ]
  rw [hR, hQ] at HD
  clear hl hn hn2 hR hQ
  go_enter Tryd.func16, Tryd.ntmps16
  go_wp2_with (go_at_call 30; (with_reducible refine HD.out.mono ?_); rintro e w' ⟨rfl, k, rfl⟩)
  refine bodyPost_ret (v := .tuple #[.int .u64 Q, .int .u64 R, .nilIface]) (by simp [results, Tryd.results16, go_sem]) rfl ⟨rfl, k, rfl⟩
theorem refSplit_bad (h l n : Nat) (w : World) (hn : n ≤ h) :
    Calls Tryd.prog 17 #[.int .u64 h, .int .u64 l, .int .u64 n] w fun e w' => e = .returned (.tuple #[.int .u64 0, .int .u64 0, .int .i64 2]) ∧ w = w' := by
  have hd : decide (n ≤ h) = true := by simpa using hn
  go_enter Tryd.func17, Tryd.ntmps17
  go_wp2
  refine bodyPost_ret (v := .tuple #[.int .u64 0, .int .u64 0, .int .i64 2]) (by simp [results, Tryd.results17, go_sem]) rfl ⟨rfl, rfl⟩
theorem refSplit_ok (h l n : Nat) (w : World) (hl : l < 18446744073709551616) (hn : h < n) (hn2 : n < 18446744073709551616) :
    Calls Tryd.prog 17 #[.int .u64 h, .int .u64 l, .int .u64 n] w fun e w' => e = .returned (.tuple #[.int .u64 (((h * 18446744073709551616 + l) / n : Nat) : Int), .int .u64 (((h * 18446744073709551616 + l) % n : Nat) : Int), .int .i64 0]) ∧ w = w' := by
  have hq : (h * 18446744073709551616 + l) / n < 18446744073709551616 := Dv.quo_lt hl hn
  have hr := refRest_any h l n w (by omega) hl (by omega) hn2
  rw [Nat.mod_eq_of_lt hq] at hr
  have HD := Lib.hid hr
  have hd : decide (n ≤ h) = false := by rw [decide_eq_false_iff_not]; omega
  obtain ⟨R, hR⟩ : ∃ R, (h * 18446744073709551616 + l) % n = R := ⟨_, rfl⟩
  obtain ⟨Q, hQ⟩ : ∃ R, (h * 18446744073709551616 + l) / n = R := ⟨_, rfl⟩
  rw [hR, hQ]
  rw [hR, hQ] at HD
  clear hl hn hn2 hR hQ hq hr
  go_enter Tryd.func17, Tryd.ntmps17
  go_wp2_with (go_at_call 26; (with_reducible refine HD.out.mono ?_); rintro e _ ⟨rfl, rfl⟩)
  refine bodyPost_ret (v := .tuple #[.int .u64 Q, .int .u64 R, .int .i64 0]) (by simp [results, Tryd.results17, go_sem]) rfl ⟨rfl, rfl⟩
theorem refWide_any (a b : Nat) (w : World) (ha : a < 18446744073709551616) (hb : b < 18446744073709551616) :
    Calls Tryd.prog 15 #[.int .u64 a, .int .u64 b] w fun e w' => e = .returned (.tuple #[.int .u64 ((a * b / 18446744073709551616 : Nat) : Int), .int .u64 ((a * b % 18446744073709551616 : Nat) : Int)]) ∧ w = w' := by
  obtain ⟨h1, h2, h3, h4, h5, h6, h7⟩ := Dv.wide_words a b ha hb
  have hHb : a * b / 18446744073709551616 < 18446744073709551616 := Nat.div_lt_of_lt_mul (Nat.mul_lt_mul'' ha hb)
  obtain ⟨H, hH⟩ : ∃ H, a * b / 18446744073709551616 = H := ⟨_, rfl⟩
  rw [hH] at hHb
  obtain ⟨Lw, hLw⟩ : ∃ H, a * b % 18446744073709551616 = H := ⟨_, rfl⟩
  rw [hH] at h6 ⊢
  rw [hLw] at h7 ⊢
  have ma := and_mask (a : Int) (by omega) (by omega)
  have mb := and_mask (b : Int) (by omega) (by omega)
  obtain ⟨a0, ea0⟩ : ∃ z, a % 4294967296 = z := ⟨_, rfl⟩
  obtain ⟨a1, ea1⟩ : ∃ z, a / 4294967296 = z := ⟨_, rfl⟩
  obtain ⟨b0, eb0⟩ : ∃ z, b % 4294967296 = z := ⟨_, rfl⟩
  obtain ⟨b1, eb1⟩ : ∃ z, b / 4294967296 = z := ⟨_, rfl⟩
  have ia0 : (a : Int) % 4294967296 = (a0 : Int) := by omega
  have ia1 : (a : Int) / 4294967296 = (a1 : Int) := by omega
  have ib0 : (b : Int) % 4294967296 = (b0 : Int) := by omega
  have ib1 : (b : Int) / 4294967296 = (b1 : Int) := by omega
  rw [ia0] at ma
  rw [ib0] at mb
  rw [ea0, eb0] at h1
  rw [ea0, ea1, eb0] at h2
  rw [ea0, ea1, eb0, eb1] at h3 h6 h7
  rw [ea1, eb1] at h4
  rw [ea0, ea1, eb0, eb1] at h5
  obtain ⟨p00, e00⟩ : ∃ z, a0 * b0 = z := ⟨_, rfl⟩
  obtain ⟨p10, e10⟩ : ∃ z, a1 * b0 = z := ⟨_, rfl⟩
  obtain ⟨p01, e01⟩ : ∃ z, a0 * b1 = z := ⟨_, rfl⟩
  obtain ⟨p11, e11⟩ : ∃ z, a1 * b1 = z := ⟨_, rfl⟩
  rw [e00] at h1 
  rw [e00, e10] at h2
  rw [e00, e10, e01] at h3 h7
  rw [e11] at h4
  rw [e00, e10, e11] at h5
  rw [e00, e10, e11, e01] at h6
  have w00 : IntKind.u64.wrap ((a0 : Int) * (b0 : Int)) = (p00 : Int) := by rw [← Int.natCast_mul, e00, IntKind.wrap_u64]; omega
  have w10 : IntKind.u64.wrap ((a1 : Int) * (b0 : Int)) = (p10 : Int) := by rw [← Int.natCast_mul, e10, IntKind.wrap_u64]; omega
  have w01 : IntKind.u64.wrap ((a0 : Int) * (b1 : Int)) = (p01 : Int) := by rw [← Int.natCast_mul, e01, IntKind.wrap_u64]; omega
  have w11 : IntKind.u64.wrap ((a1 : Int) * (b1 : Int)) = (p11 : Int) := by rw [← Int.natCast_mul, e11, IntKind.wrap_u64]; omega
  obtain ⟨c, hc⟩ : ∃ z, p00 / 4294967296 = z := ⟨_, rfl⟩
  obtain ⟨d, hd⟩ : ∃ z, p00 % 4294967296 = z := ⟨_, rfl⟩
  have ic : (p00 : Int) / 4294967296 = (c : Int) := by omega
  have md := and_mask (p00 : Int) (by omega) (by omega)
  rw [show (p00 : Int) % 4294967296 = (d : Int) by omega] at md
  rw [hc] at h2 h3 h5 h6 h7
  rw [hd] at h7
  obtain ⟨x, hx⟩ : ∃ z, p10 + c = z := ⟨_, rfl⟩
  rw [hx] at h2 h3 h5 h6 h7
  have wx : IntKind.u64.wrap ((p10 : Int) + (c : Int)) = (x : Int) := by rw [IntKind.wrap_u64]; omega
  obtain ⟨x0, hx0⟩ : ∃ z, x % 4294967296 = z := ⟨_, rfl⟩
  obtain ⟨x1, hx1⟩ : ∃ z, x / 4294967296 = z := ⟨_, rfl⟩
  have mx := and_mask (x : Int) (by omega) (by omega)
  rw [show (x : Int) % 4294967296 = (x0 : Int) by omega] at mx
  have ix1 : (x : Int) / 4294967296 = (x1 : Int) := by omega
  rw [hx0] at h3 h6 h7
  rw [hx1] at h5 h6
  obtain ⟨y, hy⟩ : ∃ z, p01 + x0 = z := ⟨_, rfl⟩
  rw [hy] at h3 h6 h7
  have wy : IntKind.u64.wrap ((p01 : Int) + (x0 : Int)) = (y : Int) := by rw [IntKind.wrap_u64]; omega
  obtain ⟨y1, hy1⟩ : ∃ z, y / 4294967296 = z := ⟨_, rfl⟩
  have iy1 : (y : Int) / 4294967296 = (y1 : Int) := by omega
  rw [hy1] at h6
  obtain ⟨t, ht⟩ : ∃ z, p11 + x1 = z := ⟨_, rfl⟩
  rw [ht] at h5 h6
  have wt : IntKind.u64.wrap ((p11 : Int) + (x1 : Int)) = (t : Int) := by rw [IntKind.wrap_u64]; omega
  have wH : IntKind.u64.wrap ((t : Int) + (y1 : Int)) = (H : Int) := by rw [IntKind.wrap_u64]; omega
  obtain ⟨g, hg⟩ : ∃ z, y % 4294967296 * 4294967296 = z := ⟨_, rfl⟩
  have wg : IntKind.u64.wrap ((y : Int) * 4294967296) = (g : Int) := by rw [IntKind.wrap_u64]; omega
  have wo : Go.bits .or .u64 (g : Int) (d : Int) = (Lw : Int) := by
    rw [bits_or_u64_nat g d (by omega) (by omega)]
    have e : g ||| d = g + d := by
      have h := Nat.two_pow_add_eq_or_of_lt (i := 32) (b := d) (by omega) (y % 4294967296)
      rw [show 2 ^ 32 * (y % 4294967296) = g by rw [← hg, Nat.mul_comm]] at h
      exact h.symm
    rw [e]; omega
  have ba : (a : Int) ≤ 18446744073709551615 := by omega
  have bb : (b : Int) ≤ 18446744073709551615 := by omega
  have bp : (p00 : Int) ≤ 18446744073709551615 := by omega
  have bx : (x : Int) ≤ 18446744073709551615 := by omega
  have bt : (t : Int) ≤ 18446744073709551615 := by omega
  have by' : (y : Int) ≤ 18446744073709551615 := by omega
  clear h1 h2 h3 h4 h5 h6 h7 hH hHb hLw ha hb ea0 ea1 eb0 eb1 e00 e10 e01 e11 hc hd hx hx0 hx1 hy hy1 ht hg ia0 ib0
  go_enter Tryd.func15, Tryd.ntmps15
  go_wp2
  go_ret2
  exact ⟨rfl, rfl⟩
end W1
end Go.Proofs.YtebfecnpkifgeaaDoor
