/-
  WordApplies. Own work.
-/
import Derived.Test.YtebfecnpkifgeaaDoorWv
import Derived.Test.YtebfecnpkifgeaaDoorWnum
namespace Go.Proofs.YtebfecnpkifgeaaDoor
open Go.RowKit
set_option linter.unusedVariables false
namespace W1
theorem add64_run (x y : Nat) (w : World) : (callFunc 34 #[.int .u64 x, .int .u64 y, .int .u64 0]).run Tryd.prog w =
    .ok (.value (.tuple #[.int .u64 (((x : Int) + y) % 18446744073709551616), .int .u64 (((x : Int) + y) / 18446744073709551616)])) w := by
  have h := @run_callFunc_extern Tryd.prog 34 _ add64Entry Tryd.func34 (by kernel_rfl) (by kernel_rfl) (by kernel_rfl) (by kernel_rfl)
  rw [h, run_add64 x y 0 (by omega) (by omega) (by omega) (by omega)]
  simp [Result.andThen]
/-- A rest by a third word. -/
theorem rest_zero (h l : Int) (w : World) : Calls Tryd.prog 35 #[.int .u64 h, .int .u64 l, .int .u64 0] w fun e w' => e = .returned (.int .u64 0) ∧ ∃ k, w' = w.drewN k := by
  go_enter Tryd.func35, Tryd.ntmps35
  go_wp2
  go_ret
  exact ⟨rfl, 0, rfl⟩
theorem rest_any (h l n : Nat) (w : World) (hh : h < 18446744073709551616) (hl : l < 18446744073709551616) (hn : n < 18446744073709551616) :
    Calls Tryd.prog 35 #[.int .u64 h, .int .u64 l, .int .u64 n] w fun e w' => e = .returned (.int .u64 ((if n = 0 then 0 else (h * 18446744073709551616 + l) % n : Nat) : Int)) ∧ ∃ k, w' = w.drewN k := by
  rcases Nat.eq_zero_or_pos n with h0 | h0
  · subst h0
    rw [if_pos rfl]
    exact rest_zero h l w
  · rw [if_neg (by omega)]
    have HR := Lib.hid (rem64_any h l n w hh hl h0 hn)
    have hz : ((n : Int) == 0) = false := by simp; omega
    obtain ⟨R, hR⟩ : ∃ R, (h * 18446744073709551616 + l) % n = R := ⟨_, rfl⟩
    rw [hR] at HR ⊢
    clear hh hl hn h0 hR
    go_enter Tryd.func35, Tryd.ntmps35
    go_wp2_with (go_at_call 49; (with_reducible refine HR.out.mono ?_); rintro e w' ⟨rfl, k, rfl⟩)
    go_ret
    exact ⟨rfl, k, rfl⟩
theorem arith_addmod (a b c : Nat) (w : World) (ha : a < 18446744073709551616) (hb : b < 18446744073709551616) (hc : c < 18446744073709551616) :
    Calls Tryd.prog 20 #[.int .i64 8, .int .u64 a, .int .u64 b, .int .u64 c] w fun e w' => e = .returned (.int .u64 ((if c = 0 then 0 else (a + b) % c : Nat) : Int)) ∧ ∃ k, w' = w.drewN k := by
  have hx := add64_run a b
  obtain ⟨s, hs⟩ : ∃ s : Nat, ((a : Int) + b) % 18446744073709551616 = (s : Int) := ⟨(a + b) % 18446744073709551616, by omega⟩
  obtain ⟨t, ht⟩ : ∃ s : Nat, ((a : Int) + b) / 18446744073709551616 = (s : Int) := ⟨(a + b) / 18446744073709551616, by omega⟩
  have hr := rest_any t s c w (by omega) (by omega) hc
  rw [show t * 18446744073709551616 + s = a + b by omega] at hr
  have HR := Lib.hid hr
  simp only [hs, ht] at hx
  obtain ⟨V, hV⟩ : ∃ V, (if c = 0 then 0 else (a + b) % c) = V := ⟨_, rfl⟩
  rw [hV] at HR ⊢
  clear ha hb hc hr hs ht hV
  go_enter Tryd.func20, Tryd.ntmps20
  go_wp2_with (go_at_call 35; (with_reducible refine HR.out.mono ?_); rintro e w' ⟨rfl, k, rfl⟩)
  go_ret
  exact ⟨rfl, k, rfl⟩
theorem app_addmod (a b c : Nat) (w : World) (ha : a < 18446744073709551616) (hb : b < 18446744073709551616) (hc : c < 18446744073709551616) :
    Calls Tryd.prog 9 #[.int .i64 8, .int .u64 a, .int .u64 b, .int .u64 c] w fun e w' => e = .returned (.tuple #[.int .u64 ((if c = 0 then 0 else (a + b) % c : Nat) : Int), .nilIface]) ∧ ∃ k, w' = w.drewN k := by
  have HR := Lib.hid (arith_addmod a b c w ha hb hc)
  obtain ⟨V, hV⟩ : ∃ V, (if c = 0 then 0 else (a + b) % c) = V := ⟨_, rfl⟩
  rw [hV] at HR ⊢
  clear ha hb hc hV
  go_enter Tryd.func9, Tryd.ntmps9
  go_wp2_with (go_at_call 20; (with_reducible refine HR.out.mono ?_); rintro e w' ⟨rfl, k, rfl⟩)
  go_ret2
  exact ⟨rfl, k, rfl⟩
theorem arith_mulmod (a b c : Nat) (w : World) (ha : a < 18446744073709551616) (hb : b < 18446744073709551616) (hc : c < 18446744073709551616) :
    Calls Tryd.prog 20 #[.int .i64 9, .int .u64 a, .int .u64 b, .int .u64 c] w fun e w' => e = .returned (.int .u64 ((if c = 0 then 0 else a * b % c : Nat) : Int)) ∧ ∃ k, w' = w.drewN k := by
  have hm := Tryd.bits_Mul64 a b ha hb w
  have hHb : a * b / 18446744073709551616 < 18446744073709551616 := Nat.div_lt_of_lt_mul (Nat.mul_lt_mul'' ha hb)
  have hLb : a * b % 18446744073709551616 < 18446744073709551616 := Nat.mod_lt _ (by decide)
  have hHL := Nat.div_add_mod' (a * b) 18446744073709551616
  obtain ⟨H, hH⟩ : ∃ H, a * b / 18446744073709551616 = H := ⟨_, rfl⟩
  obtain ⟨Lw, hLw⟩ : ∃ H, a * b % 18446744073709551616 = H := ⟨_, rfl⟩
  rw [hH, hLw] at hm hHL
  rw [hH] at hHb
  rw [hLw] at hLb
  have hr := rest_any H Lw c w hHb hLb hc
  rw [hHL] at hr
  have HR := Lib.hid hr
  have HM := Lib.hid hm
  obtain ⟨V, hV⟩ : ∃ V, (if c = 0 then 0 else a * b % c) = V := ⟨_, rfl⟩
  rw [hV] at HR ⊢
  clear ha hb hc hr hm hHb hLb hHL hH hLw hV
  go_enter Tryd.func20, Tryd.ntmps20
  go_wp2_with (first
    | (go_at_call 29; (with_reducible refine HM.out.mono ?_); rintro e w' ⟨rfl, hw'⟩; have hw2 := hw'.symm; clear hw'; subst hw2)
    | (go_at_call 35; (with_reducible refine HR.out.mono ?_); rintro e w' ⟨rfl, k, rfl⟩))
  go_ret
  exact ⟨rfl, k, rfl⟩
theorem app_mulmod (a b c : Nat) (w : World) (ha : a < 18446744073709551616) (hb : b < 18446744073709551616) (hc : c < 18446744073709551616) :
    Calls Tryd.prog 9 #[.int .i64 9, .int .u64 a, .int .u64 b, .int .u64 c] w fun e w' => e = .returned (.tuple #[.int .u64 ((if c = 0 then 0 else a * b % c : Nat) : Int), .nilIface]) ∧ ∃ k, w' = w.drewN k := by
  have HR := Lib.hid (arith_mulmod a b c w ha hb hc)
  obtain ⟨V, hV⟩ : ∃ V, (if c = 0 then 0 else a * b % c) = V := ⟨_, rfl⟩
  rw [hV] at HR ⊢
  clear ha hb hc hV
  go_enter Tryd.func9, Tryd.ntmps9
  go_wp2_with (go_at_call 20; (with_reducible refine HR.out.mono ?_); rintro e w' ⟨rfl, k, rfl⟩)
  go_ret2
  exact ⟨rfl, k, rfl⟩
theorem one_any (p : Bool) (w : World) : Calls Tryd.prog 25 #[.bool p] w fun e w' => e = .returned (.int .u64 (if p then 1 else 0)) ∧ w = w' := by
  cases p
  · go_enter Tryd.func25, Tryd.ntmps25
    go_wp2
    go_ret
    exact ⟨rfl, rfl⟩
  · go_enter Tryd.func25, Tryd.ntmps25
    go_wp2
    go_ret
    exact ⟨rfl, rfl⟩
set_option maxRecDepth 100000 in
theorem ref_mod8 (a b : Int) (w : World) (ha : 0 ≤ a ∧ a ≤ 18446744073709551615) (hb : 0 ≤ b ∧ b ≤ 18446744073709551615) :
    Calls Tryd.prog 10 #[.int .i64 8, .int .u64 a, .int .u64 b, .int .u64 0] w fun e w' => e = .returned (.tuple #[.int .u64 0, .int .i64 0]) ∧ w = w' := by
  go_enter Tryd.func10, Tryd.ntmps10
  go_wp2_with fail
  go_ret2
  exact ⟨rfl, rfl⟩
set_option maxRecDepth 100000 in
theorem ref_mod9 (a b : Int) (w : World) (ha : 0 ≤ a ∧ a ≤ 18446744073709551615) (hb : 0 ≤ b ∧ b ≤ 18446744073709551615) :
    Calls Tryd.prog 10 #[.int .i64 9, .int .u64 a, .int .u64 b, .int .u64 0] w fun e w' => e = .returned (.tuple #[.int .u64 0, .int .i64 0]) ∧ w = w' := by
  go_enter Tryd.func10, Tryd.ntmps10
  go_wp2_with fail
  go_ret2
  exact ⟨rfl, rfl⟩
theorem ref_addmod (a b c : Nat) (w : World) (ha : a < 18446744073709551616) (hb : b < 18446744073709551616) (hc : c < 18446744073709551616) (hc0 : 0 < c) :
    Calls Tryd.prog 10 #[.int .i64 8, .int .u64 a, .int .u64 b, .int .u64 c] w fun e w' => e = .returned (.tuple #[.int .u64 (((a + b) % c : Nat) : Int), .int .i64 0]) ∧ w = w' := by
  have HW := Lib.hid (refWide_any a b w ha hb)
  obtain ⟨H, hH⟩ : ∃ H, a * b / 18446744073709551616 = H := ⟨_, rfl⟩
  obtain ⟨Lw, hLw⟩ : ∃ H, a * b % 18446744073709551616 = H := ⟨_, rfl⟩
  rw [hH, hLw] at HW
  obtain ⟨s, hs⟩ : ∃ s : Nat, IntKind.u64.wrap ((a : Int) + b) = (s : Int) := ⟨(a + b) % 18446744073709551616, by rw [IntKind.wrap_u64]; omega⟩
  have hs2 : s = (a + b) % 18446744073709551616 := by rw [IntKind.wrap_u64] at hs; omega
  have hz : ((c : Int) == 0) = false := by simp; omega
  by_cases hlt : s < a
  case' pos =>
    have hd : decide (s < a) = true := by simpa using hlt
    have hr := refRest_any 1 s c w (by decide) (by omega) hc0 hc
    rw [show 1 * 18446744073709551616 + s = a + b by omega] at hr
  case' neg =>
    have hd : decide (s < a) = false := by rw [decide_eq_false_iff_not]; exact hlt
    have hr := refRest_any 0 s c w (by decide) (by omega) hc0 hc
    rw [show 0 * 18446744073709551616 + s = a + b by omega] at hr
  all_goals
    obtain ⟨V, hV⟩ : ∃ V, (a + b) % c = V := ⟨_, rfl⟩
    obtain ⟨Q, hQ⟩ : ∃ V, (a + b) / c % 18446744073709551616 = V := ⟨_, rfl⟩
    rw [hV, hQ] at hr
    rw [hV]
    simp only [Int.natCast_zero, Int.natCast_one] at hr
    have HR := Lib.hid hr
    clear ha hb hc hc0 hH hLw hs2 hr hV hQ hlt
    go_enter Tryd.func10, Tryd.ntmps10
    go_wp2_with (first
      | (go_at_call 15; (with_reducible refine HW.out.mono ?_); rintro e _ ⟨rfl, rfl⟩)
      | (go_at_call 25; refine (one_any _ _).mono ?_; rintro e _ ⟨rfl, rfl⟩)
      | (go_at_call 26; (with_reducible refine HR.out.mono ?_); rintro e _ ⟨rfl, rfl⟩))
    go_ret2
    exact ⟨rfl, rfl⟩
theorem ref_mulmod (a b c : Nat) (w : World) (ha : a < 18446744073709551616) (hb : b < 18446744073709551616) (hc : c < 18446744073709551616) (hc0 : 0 < c) :
    Calls Tryd.prog 10 #[.int .i64 9, .int .u64 a, .int .u64 b, .int .u64 c] w fun e w' => e = .returned (.tuple #[.int .u64 ((a * b % c : Nat) : Int), .int .i64 0]) ∧ w = w' := by
  have HW := Lib.hid (refWide_any a b w ha hb)
  have hHb : a * b / 18446744073709551616 < 18446744073709551616 := Nat.div_lt_of_lt_mul (Nat.mul_lt_mul'' ha hb)
  have hLb : a * b % 18446744073709551616 < 18446744073709551616 := Nat.mod_lt _ (by decide)
  have hHL := Nat.div_add_mod' (a * b) 18446744073709551616
  obtain ⟨H, hH⟩ : ∃ H, a * b / 18446744073709551616 = H := ⟨_, rfl⟩
  obtain ⟨Lw, hLw⟩ : ∃ H, a * b % 18446744073709551616 = H := ⟨_, rfl⟩
  rw [hH, hLw] at HW hHL
  rw [hH] at hHb
  rw [hLw] at hLb
  have hz : ((c : Int) == 0) = false := by simp; omega
  have hr := refRest_any H Lw c w hHb hLb hc0 hc
  rw [hHL] at hr
  obtain ⟨V, hV⟩ : ∃ V, a * b % c = V := ⟨_, rfl⟩
  obtain ⟨Q, hQ⟩ : ∃ V, a * b / c % 18446744073709551616 = V := ⟨_, rfl⟩
  rw [hV, hQ] at hr
  rw [hV]
  have HR := Lib.hid hr
  clear ha hb hc hc0 hHb hLb hHL hH hLw hr hV hQ
  go_enter Tryd.func10, Tryd.ntmps10
  go_wp2_with (first
    | (go_at_call 15; (with_reducible refine HW.out.mono ?_); rintro e _ ⟨rfl, rfl⟩)
    | (go_at_call 26; (with_reducible refine HR.out.mono ?_); rintro e _ ⟨rfl, rfl⟩))
  go_ret2
  exact ⟨rfl, rfl⟩
/-- Every operation. -/
theorem both_any (op a b c : Nat) (h1 : 1 ≤ op) (h25 : op ≤ 25) (ha : a < 18446744073709551616) (hb : b < 18446744073709551616) (hc : c < 18446744073709551616) : ∃ V, Both op a b c V := by
  have hcase : op = 1 ∨ op = 2 ∨ op = 3 ∨ op = 4 ∨ op = 5 ∨ op = 6 ∨ op = 7 ∨ op = 8 ∨ op = 9 ∨ op = 10 ∨ op = 11 ∨ op = 12 ∨ op = 13 ∨ op = 14 ∨ op = 15 ∨ op = 16 ∨ op = 17 ∨ op = 18 ∨ op = 19 ∨ op = 20 ∨ op = 21 ∨ op = 22 ∨ op = 23 ∨ op = 24 ∨ op = 25 := by omega
  rcases hcase with rfl | rfl | rfl | rfl | rfl | rfl | rfl | rfl | rfl | rfl | rfl | rfl | rfl | rfl | rfl | rfl | rfl | rfl | rfl | rfl | rfl | rfl | rfl | rfl | rfl
  · exact ⟨_, both_of (fun w => app_add a b c w (okN ha) (okN hb)) (fun w => ref_add a b c w (okN ha) (okN hb))⟩
  · exact ⟨_, both_of (fun w => app_sub a b c w (okN ha) (okN hb)) (fun w => ref_sub a b c w (okN ha) (okN hb))⟩
  · exact ⟨_, both_of (fun w => app_mul a b c w (okN ha) (okN hb)) (fun w => ref_mul a b c w ha hb)⟩
  · exact ⟨_, both_of (fun w => app_div a b c w (okN ha) (okN hb)) (fun w => ref_div a b c w ha hb)⟩
  · exact ⟨_, both_of (fun w => app_sdiv a b c w (okN ha) (okN hb)) (fun w => ref_sdiv a b c w ha hb)⟩
  · exact ⟨_, both_of (fun w => app_mod a b c w (okN ha) (okN hb)) (fun w => ref_mod a b c w ha hb)⟩
  · exact ⟨_, both_of (fun w => app_smod a b c w (okN ha) (okN hb)) (fun w => ref_smod a b c w ha hb)⟩
  · refine ⟨((if c = 0 then 0 else (a + b) % c : Nat) : Int), fun w => app_addmod a b c w ha hb hc, fun w => ?_⟩
    rcases Nat.eq_zero_or_pos c with h | h
    · subst h; exact ref_mod8 a b w ⟨by omega, by omega⟩ ⟨by omega, by omega⟩
    · rw [if_neg (by omega)]; exact ref_addmod a b c w ha hb hc h
  · refine ⟨((if c = 0 then 0 else a * b % c : Nat) : Int), fun w => app_mulmod a b c w ha hb hc, fun w => ?_⟩
    rcases Nat.eq_zero_or_pos c with h | h
    · subst h; exact ref_mod9 a b w ⟨by omega, by omega⟩ ⟨by omega, by omega⟩
    · rw [if_neg (by omega)]; exact ref_mulmod a b c w ha hb hc h
  · refine ⟨U.exp a b, both_of (fun w => apply_exp a b c w (okN ha) (okN hb)) (fun w => ?_)⟩
    have e : U.exp a b = ((a ^ b % 18446744073709551616 : Nat) : Int) := by unfold U.exp; rw [Int.toNat_natCast, ← Int.natCast_pow]; rfl
    rw [e]; exact ref_exp a b c w ha hb
  · exact ⟨_, both_of (fun w => app_sext a b c w (okN ha) (okN hb)) (fun w => by rw [usext a b hb]; exact ref_nsext a b c w ha hb)⟩
  · exact ⟨_, both_of (fun w => app_byte a b c w (okN ha) (okN hb)) (fun w => by rw [ubyte a b]; exact ref_nbyte a b c w ha hb)⟩
  · exact ⟨_, both_of (fun w => app_shl a b c w (okN ha) (okN hb)) (fun w => by rw [ushl a b]; exact ref_nshl a b c w ha hb)⟩
  · exact ⟨_, both_of (fun w => app_shr a b c w (okN ha) (okN hb)) (fun w => by rw [ushr a b]; exact ref_nshr a b c w ha hb)⟩
  · exact ⟨_, both_of (fun w => app_sar a b c w (okN ha) (okN hb)) (fun w => by rw [usar a b hb]; exact ref_nsar a b c w ha hb)⟩
  · exact ⟨_, both_of (fun w => app_lt a b c w (okN ha) (okN hb)) (fun w => ref_lt a b c w (okN ha) (okN hb))⟩
  · exact ⟨_, both_of (fun w => app_gt a b c w (okN ha) (okN hb)) (fun w => ref_gt a b c w (okN ha) (okN hb))⟩
  · exact ⟨_, both_of (fun w => app_slt a b c w (okN ha) (okN hb)) (fun w => ref_slt a b c w (okN ha) (okN hb))⟩
  · exact ⟨_, both_of (fun w => app_sgt a b c w (okN ha) (okN hb)) (fun w => ref_sgt a b c w (okN ha) (okN hb))⟩
  · exact ⟨_, both_of (fun w => app_eq a b c w (okN ha) (okN hb)) (fun w => ref_eq a b c w (okN ha) (okN hb))⟩
  · exact ⟨_, both_of (fun w => app_isz a b c w (okN ha) (okN hb)) (fun w => ref_isz a b c w (okN ha) (okN hb))⟩
  · exact ⟨_, both_of (fun w => app_and a b c w (okN ha) (okN hb)) (fun w => ref_and a b c w (okN ha) (okN hb))⟩
  · exact ⟨_, both_of (fun w => app_or a b c w (okN ha) (okN hb)) (fun w => ref_or a b c w (okN ha) (okN hb))⟩
  · exact ⟨_, both_of (fun w => app_xor a b c w (okN ha) (okN hb)) (fun w => ref_xor a b c w (okN ha) (okN hb))⟩
  · exact ⟨_, both_of (fun w => app_not a b c w (okN ha) (okN hb)) (fun w => ref_not a b c w (okN ha) (okN hb))⟩
/-- No operation. -/
theorem app_none (op : Int) (a b c : Int) (w : World) (h : op < 1 ∨ 25 < op) :
    Calls Tryd.prog 9 #[.int .i64 op, .int .u64 a, .int .u64 b, .int .u64 c] w fun e w' => e = .returned (.tuple #[.int .u64 0, .iface 22 (.int .i64 10)]) ∧ w = w' := by
  rcases h with h | h
  · go_enter Tryd.func9, Tryd.ntmps9
    go_wp2
    go_ret2
    exact ⟨rfl, rfl⟩
  · have h1 : 1 ≤ op := by omega
    go_enter Tryd.func9, Tryd.ntmps9
    go_wp2
    go_ret2
    exact ⟨rfl, rfl⟩
set_option maxRecDepth 100000 in
set_option maxHeartbeats 1000000 in
theorem ref_none (op : Int) (a b c : Int) (w : World) (h : op < 1 ∨ 25 < op) :
    Calls Tryd.prog 10 #[.int .i64 op, .int .u64 a, .int .u64 b, .int .u64 c] w fun e w' => e = .returned (.tuple #[.int .u64 0, .int .i64 10]) ∧ w = w' := by
  have n1 : (op == 1) = false := by simp; omega
  have n2 : (op == 2) = false := by simp; omega
  have n3 : (op == 3) = false := by simp; omega
  have n4 : (op == 4) = false := by simp; omega
  have n5 : (op == 5) = false := by simp; omega
  have n6 : (op == 6) = false := by simp; omega
  have n7 : (op == 7) = false := by simp; omega
  have n8 : (op == 8) = false := by simp; omega
  have n9 : (op == 9) = false := by simp; omega
  have n10 : (op == 10) = false := by simp; omega
  have n11 : (op == 11) = false := by simp; omega
  have n12 : (op == 12) = false := by simp; omega
  have n13 : (op == 13) = false := by simp; omega
  have n14 : (op == 14) = false := by simp; omega
  have n15 : (op == 15) = false := by simp; omega
  have n16 : (op == 16) = false := by simp; omega
  have n17 : (op == 17) = false := by simp; omega
  have n18 : (op == 18) = false := by simp; omega
  have n19 : (op == 19) = false := by simp; omega
  have n20 : (op == 20) = false := by simp; omega
  have n21 : (op == 21) = false := by simp; omega
  have n22 : (op == 22) = false := by simp; omega
  have n23 : (op == 23) = false := by simp; omega
  have n24 : (op == 24) = false := by simp; omega
  have n25 : (op == 25) = false := by simp; omega
  clear h
  go_enter Tryd.func10, Tryd.ntmps10
  go_wp2_with fail
  go_ret2
  exact ⟨rfl, rfl⟩
/-- How many operands; an error's number. -/
def argN (op : Int) : Int := if op < 1 ∨ 25 < op then 0 else if op = 8 ∨ op = 9 then 3 else if op = 21 ∨ op = 25 then 1 else 2
def argE (op : Int) : Int := if op < 1 ∨ 25 < op then 10 else 0
theorem args_any (op : Int) (w : World) : Calls Tryd.prog 11 #[.int .i64 op] w fun e w' => e = .returned (.tuple #[.int .i64 (argN op), errV (argE op)]) ∧ w = w' := by
  by_cases h0 : op < 1
  · rw [show argN op = 0 from if_pos (.inl h0), show argE op = 10 from if_pos (.inl h0), show errV 10 = .iface 22 (.int .i64 10) from rfl]
    go_enter Tryd.func11, Tryd.ntmps11
    go_wp2
    go_ret2
    exact ⟨rfl, rfl⟩
  by_cases h1 : 25 < op
  · rw [show argN op = 0 from if_pos (.inr h1), show argE op = 10 from if_pos (.inr h1), show errV 10 = .iface 22 (.int .i64 10) from rfl]
    have h2 : 1 ≤ op := by omega
    clear h0
    go_enter Tryd.func11, Tryd.ntmps11
    go_wp2
    go_ret2
    exact ⟨rfl, rfl⟩
  unfold argN argE errV
  have hx : ¬ (op < 1 ∨ 25 < op) := by omega
  rw [if_neg hx, if_neg hx, if_pos rfl]
  have l1 : 1 ≤ op := by omega
  have l2 : op ≤ 25 := by omega
  clear h0 h1 hx
  by_cases h8 : op = 8
  · subst h8; go_enter Tryd.func11, Tryd.ntmps11; go_wp2; go_ret2; exact ⟨rfl, rfl⟩
  by_cases h9 : op = 9
  · subst h9; go_enter Tryd.func11, Tryd.ntmps11; go_wp2; go_ret2; exact ⟨rfl, rfl⟩
  by_cases h21 : op = 21
  · subst h21; go_enter Tryd.func11, Tryd.ntmps11; go_wp2; go_ret2; exact ⟨rfl, rfl⟩
  by_cases h25 : op = 25
  · subst h25; go_enter Tryd.func11, Tryd.ntmps11; go_wp2; go_ret2; exact ⟨rfl, rfl⟩
  rw [if_neg (by omega), if_neg (by omega)]
  have b8 : (op == 8) = false := by simpa using h8
  have b9 : (op == 9) = false := by simpa using h9
  have b21 : (op == 21) = false := by simpa using h21
  have b25 : (op == 25) = false := by simpa using h25
  clear h8 h9 h21 h25
  go_enter Tryd.func11, Tryd.ntmps11
  go_wp2
  go_ret2
  exact ⟨rfl, rfl⟩
theorem refArgs_any (op : Int) (w : World) : Calls Tryd.prog 12 #[.int .i64 op] w fun e w' => e = .returned (.tuple #[.int .i64 (argN op), .int .i64 (argE op)]) ∧ w = w' := by
  unfold argN argE
  by_cases h0 : op < 1
  · rw [if_pos (.inl h0), if_pos (.inl h0)]
    go_enter Tryd.func12, Tryd.ntmps12
    go_wp2
    go_ret2
    exact ⟨rfl, rfl⟩
  by_cases h1 : 25 < op
  · rw [if_pos (.inr h1), if_pos (.inr h1)]
    have h2 : 1 ≤ op := by omega
    clear h0
    go_enter Tryd.func12, Tryd.ntmps12
    go_wp2
    go_ret2
    exact ⟨rfl, rfl⟩
  have hx : ¬ (op < 1 ∨ 25 < op) := by omega
  rw [if_neg hx, if_neg hx]
  have l1 : 1 ≤ op := by omega
  have l2 : op ≤ 25 := by omega
  clear h0 h1 hx
  by_cases h8 : op = 8
  · subst h8; go_enter Tryd.func12, Tryd.ntmps12; go_wp2; go_ret2; exact ⟨rfl, rfl⟩
  by_cases h9 : op = 9
  · subst h9; go_enter Tryd.func12, Tryd.ntmps12; go_wp2; go_ret2; exact ⟨rfl, rfl⟩
  by_cases h21 : op = 21
  · subst h21; go_enter Tryd.func12, Tryd.ntmps12; go_wp2; go_ret2; exact ⟨rfl, rfl⟩
  by_cases h25 : op = 25
  · subst h25; go_enter Tryd.func12, Tryd.ntmps12; go_wp2; go_ret2; exact ⟨rfl, rfl⟩
  rw [if_neg (by omega), if_neg (by omega)]
  have b8 : (op == 8) = false := by simpa using h8
  have b9 : (op == 9) = false := by simpa using h9
  have b21 : (op == 21) = false := by simpa using h21
  have b25 : (op == 25) = false := by simpa using h25
  clear h8 h9 h21 h25
  go_enter Tryd.func12, Tryd.ntmps12
  go_wp2
  go_ret2
  exact ⟨rfl, rfl⟩
/-- Both answers, whatever the operation. -/
theorem applied (op : Int) (a b c : Nat) (ha : a < 18446744073709551616) (hb : b < 18446744073709551616) (hc : c < 18446744073709551616) : ∃ (V E : Int),
    (∀ w, Calls Tryd.prog 9 #[.int .i64 op, .int .u64 a, .int .u64 b, .int .u64 c] w fun e w' => e = .returned (.tuple #[.int .u64 V, errV E]) ∧ ∃ k, w' = w.drewN k) ∧
    (∀ w, Calls Tryd.prog 10 #[.int .i64 op, .int .u64 a, .int .u64 b, .int .u64 c] w fun e w' => e = .returned (.tuple #[.int .u64 V, .int .i64 E]) ∧ w = w') := by
  by_cases h : op < 1 ∨ 25 < op
  · exact ⟨0, 10, fun w => (app_none op a b c w h).mono fun _ _ ⟨he, hw⟩ => ⟨he, 0, hw.symm⟩, fun w => ref_none op a b c w h⟩
  · obtain ⟨n, rfl⟩ : ∃ n : Nat, op = n := ⟨op.toNat, by omega⟩
    obtain ⟨V, h1, h2⟩ := both_any n a b c (by omega) (by omega) ha hb hc
    exact ⟨V, 0, h1, h2⟩
set_option maxHeartbeats 1000000 in
theorem applies_walk (op : Int) (a b c : Nat) (w : World) (ha : a < 18446744073709551616) (hb : b < 18446744073709551616) (hc : c < 18446744073709551616)
    (hg : w.cell? ⟨0, 0, none⟩ = some (.iface 82 (.agg #[.pointer (some ⟨6, 30, none⟩)]))) :
    Calls Tryd.prog 4 #[.int .i64 op, .int .u64 a, .int .u64 b, .int .u64 c] w fun e w' => e = .returned (.bool true) ∧ Below w.heap.size w w' := by
  have HG := Lib.hid hg
  obtain ⟨V, E, h1, h2⟩ := applied op a b c ha hb hc
  have H1 := Lib.hid h1
  have H2 := Lib.hid h2
  have H3 := Lib.hid (args_any op)
  have H4 := Lib.hid (refArgs_any op)
  obtain ⟨N, hN⟩ : ∃ N, argN op = N := ⟨_, rfl⟩
  obtain ⟨F, hF⟩ : ∃ N, argE op = N := ⟨_, rfl⟩
  rw [hN, hF] at H3 H4
  have hn1 := fun k => number_any E (w.drewN k) hg
  have hn2 := fun k w2 (hb : Below (w.drewN k).heap.size (w.drewN k) w2) => number_any F w2 (keep1 (W := w.drewN k) hb hg)
  have HN1 := Lib.hid hn1
  have HN2 := Lib.hid hn2
  clear h1 h2 hN hF ha hb hc hg hn1 hn2
  go_enter Tryd.func4, Tryd.ntmps4
  go_wp2_with (first
    | (go_at_call 9; (with_reducible refine (H1.out _).mono ?_); rintro ev w1 ⟨rfl, k, rfl⟩)
    | (go_at_call 10; (with_reducible refine (H2.out _).mono ?_); rintro ev _ ⟨rfl, rfl⟩)
    | (go_at_call 11; (with_reducible refine (H3.out _).mono ?_); rintro ev _ ⟨rfl, rfl⟩)
    | (go_at_call 12; (with_reducible refine (H4.out _).mono ?_); rintro ev _ ⟨rfl, rfl⟩)
    | (go_at_call 8; refine (fixed_true _).mono ?_; rintro ev _ ⟨rfl, rfl⟩)
    | (go_at_call 13; (with_reducible refine (HN1.out k).mono ?_); rintro ev w2 ⟨rfl, hb2⟩; have HB := Lib.hid hb2; clear hb2)
    | (go_at_call 13; (with_reducible refine (HN2.out k w2 HB.out).mono ?_); rintro ev w3 ⟨rfl, hb3⟩; have HC := Lib.hid hb3; clear hb3))
  go_ret
  exact ⟨rfl, bl (bl (below_drewN (Below.refl _ _) k) HB.out) HC.out⟩
end W1
theorem wordApplies_walk {w : World} (a0 a1 a2 a3 : Int) (w0 : (Lit.int .i64 a0).wf = true) (w1 : (Lit.int .u64 a1).wf = true) (w2 : (Lit.int .u64 a2).wf = true) (w3 : (Lit.int .u64 a3).wf = true)
    (hg : w.cell? ⟨0, 0, none⟩ = some (.iface 82 (.agg #[.pointer (some ⟨6, 30, none⟩)]))) :
    Calls Tryd.prog 4 #[.int .i64 a0, .int .u64 a1, .int .u64 a2, .int .u64 a3] w fun e w' => e = .returned (.bool true) ∧ Below w.heap.size w w' := by
  have b1 := bounds_u64 w1
  have b2 := bounds_u64 w2
  have b3 := bounds_u64 w3
  obtain ⟨a, rfl⟩ : ∃ a : Nat, a1 = a := ⟨a1.toNat, by omega⟩
  obtain ⟨b, rfl⟩ : ∃ a : Nat, a2 = a := ⟨a2.toNat, by omega⟩
  obtain ⟨c, rfl⟩ : ∃ a : Nat, a3 = a := ⟨a3.toNat, by omega⟩
  exact W1.applies_walk a0 a b c w (by omega) (by omega) (by omega) hg
end Go.Proofs.YtebfecnpkifgeaaDoor
