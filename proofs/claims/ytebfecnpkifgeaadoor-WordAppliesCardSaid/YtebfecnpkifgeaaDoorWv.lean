/-
  Layer 1: the program's answers and the document's are the same numbers. Own work.
-/
import Derived.Test.YtebfecnpkifgeaaDoorWt
namespace Go.Proofs.YtebfecnpkifgeaaDoor
open Go.RowKit
set_option linter.unusedVariables false
namespace W1
theorem cpow (k : Nat) : ((2 ^ k : Nat) : Int) = (2 : Int) ^ k := by rw [Int.natCast_pow]; rfl
theorem ushl (a b : Nat) : U.shl a b = (Dv.nshl a b : Nat) := by
  unfold U.shl Dv.nshl
  rw [Int.toNat_natCast, ← cpow, ← Int.natCast_mul]
  generalize b * 2 ^ min a 64 = c
  omega
theorem ushr (a b : Nat) : U.shr a b = (Dv.nshr a b : Nat) := by
  unfold U.shr Dv.nshr
  rw [Int.toNat_natCast, ← cpow, Int.natCast_ediv]
theorem usar (a b : Nat) (hb : b < 2 ^ 64) : U.sar a b = (Dv.nsar a b : Nat) := by
  unfold U.sar Dv.nsar
  rw [Int.toNat_natCast, ← cpow]
  have hp : 0 < 2 ^ min a 64 := Nat.pos_of_ne_zero (by simp)
  generalize 2 ^ min a 64 = d at *
  unfold U.sg
  by_cases h : b < 2 ^ 63
  · rw [if_pos (by omega), if_pos h, ← Int.natCast_ediv]
    have := Nat.div_le_self b d
    generalize b / d = c at *
    omega
  · rw [if_neg (by omega), if_neg h]
    obtain ⟨c, hc⟩ : ∃ c, 2 ^ 64 - (b + 1) = c := ⟨_, rfl⟩
    rw [hc]
    have e : (b : Int) - 18446744073709551616 = Int.negSucc c := by rw [Int.negSucc_eq]; omega
    rw [e, Int.negSucc_ediv c (by omega)]
    have h2 : c / d ≤ c := Nat.div_le_self _ _
    have e2 : (c : Int).ediv (d : Int) = ((c / d : Nat) : Int) := rfl
    rw [e2]
    generalize c / d = g at *
    omega
theorem ubyte (a b : Nat) : U.byte a b = (Dv.nbyte a b : Nat) := by
  unfold U.byte Dv.nbyte
  by_cases h : 7 < a
  · rw [if_pos (by omega), if_pos h]; rfl
  · rw [if_neg (by omega), if_neg h, show (56 - 8 * (a : Int)).toNat = 56 - 8 * a by omega, ← cpow, ← Int.natCast_ediv]
    rfl
theorem usext (a b : Nat) (hb : b < 2 ^ 64) : U.sext a b = (Dv.nsext a b : Nat) := by
  unfold U.sext Dv.nsext
  by_cases h : 7 ≤ a
  · rw [if_pos (by omega), if_pos h]
  · rw [if_neg (by omega), if_neg h, show (56 - 8 * (a : Int)).toNat = 56 - 8 * a by omega, ← usar _ _ (Dv.nshl_lt _ _), ← ushl]
    unfold U.sar U.shl
    rw [Int.toNat_natCast, show min (56 - 8 * a) 64 = 56 - 8 * a by omega]
/-- The answers of both to an operation. -/
def Both (op a b c : Nat) (V : Int) : Prop :=
  (∀ w, Calls Tryd.prog 9 #[.int .i64 op, .int .u64 a, .int .u64 b, .int .u64 c] w fun e w' => e = .returned (.tuple #[.int .u64 V, .nilIface]) ∧ ∃ k, w' = w.drewN k) ∧
  (∀ w, Calls Tryd.prog 10 #[.int .i64 op, .int .u64 a, .int .u64 b, .int .u64 c] w fun e w' => e = .returned (.tuple #[.int .u64 V, .int .i64 0]) ∧ w = w')
theorem both_of {op a b c : Nat} {V : Int} (h1 : ∀ w, Calls Tryd.prog 9 #[.int .i64 op, .int .u64 a, .int .u64 b, .int .u64 c] w fun e w' => e = .returned (.tuple #[.int .u64 V, .nilIface]) ∧ w = w')
    (h2 : ∀ w, Calls Tryd.prog 10 #[.int .i64 op, .int .u64 a, .int .u64 b, .int .u64 c] w fun e w' => e = .returned (.tuple #[.int .u64 V, .int .i64 0]) ∧ w = w') : Both op a b c V :=
  ⟨fun w => (h1 w).mono fun _ _ ⟨he, hw⟩ => ⟨he, 0, hw.symm⟩, h2⟩
theorem okN {a : Nat} (h : a < 18446744073709551616) : U.Ok (a : Int) := ⟨by omega, by omega⟩
/-! ## the document's Apply over its helpers -/
theorem ref_mul (a b : Nat) (c : Int) (w : World) (ha : a < 18446744073709551616) (hb : b < 18446744073709551616) :
    Calls Tryd.prog 10 #[.int .i64 3, .int .u64 a, .int .u64 b, .int .u64 c] w fun e w' => e = .returned (.tuple #[.int .u64 (U.mul a b), .int .i64 0]) ∧ w = w' := by
  have HW := Lib.hid (refWide_any a b w ha hb)
  have e : U.mul a b = ((a * b % 18446744073709551616 : Nat) : Int) := by unfold U.mul; rw [← Int.natCast_mul]; rfl
  rw [e]
  obtain ⟨H, hH⟩ : ∃ H, a * b / 18446744073709551616 = H := ⟨_, rfl⟩
  obtain ⟨Lw, hLw⟩ : ∃ H, a * b % 18446744073709551616 = H := ⟨_, rfl⟩
  rw [hH, hLw] at HW
  rw [hLw]
  clear ha hb e hH hLw
  go_enter Tryd.func10, Tryd.ntmps10
  go_wp2_with (go_at_call 15; (with_reducible refine HW.out.mono ?_); rintro e _ ⟨rfl, rfl⟩)
  go_ret2
  exact ⟨rfl, rfl⟩
theorem ref_div (a b : Nat) (c : Int) (w : World) (ha : a < 18446744073709551616) (hb : b < 18446744073709551616) :
    Calls Tryd.prog 10 #[.int .i64 4, .int .u64 a, .int .u64 b, .int .u64 c] w fun e w' => e = .returned (.tuple #[.int .u64 (U.div a b), .int .i64 0]) ∧ w = w' := by
  have hd : Calls Tryd.prog 24 #[.int .i64 4, .int .u64 a, .int .u64 b] w fun e w' => e = .returned (.int .u64 (U.div a b)) ∧ w = w' := by
    rcases Nat.eq_zero_or_pos b with h | h
    · subst h
      have e : U.div (a : Int) ((0 : Nat) : Int) = 0 := by unfold U.div; exact if_pos rfl
      rw [e]
      exact divided_zero 4 a w
    · have e : U.div a b = ((a / b : Nat) : Int) := by unfold U.div; rw [if_neg (by omega)]; rfl
      rw [e]
      exact divided_4 a b w ha h hb
  have HD := Lib.hid hd
  obtain ⟨V, hV⟩ : ∃ V, U.div a b = V := ⟨_, rfl⟩
  rw [hV] at HD ⊢
  clear ha hb hd hV
  go_enter Tryd.func10, Tryd.ntmps10
  go_wp2_with (go_at_call 24; (with_reducible refine HD.out.mono ?_); rintro e _ ⟨rfl, rfl⟩)
  go_ret2
  exact ⟨rfl, rfl⟩
theorem ref_sdiv (a b : Nat) (c : Int) (w : World) (ha : a < 18446744073709551616) (hb : b < 18446744073709551616) :
    Calls Tryd.prog 10 #[.int .i64 5, .int .u64 a, .int .u64 b, .int .u64 c] w fun e w' => e = .returned (.tuple #[.int .u64 (U.sdiv a b), .int .i64 0]) ∧ w = w' := by
  have hd : Calls Tryd.prog 24 #[.int .i64 5, .int .u64 a, .int .u64 b] w fun e w' => e = .returned (.int .u64 (U.sdiv a b)) ∧ w = w' := by
    rcases Nat.eq_zero_or_pos b with h | h
    · subst h
      have e : U.sdiv (a : Int) ((0 : Nat) : Int) = 0 := by unfold U.sdiv; exact if_pos rfl
      rw [e]
      exact divided_zero 5 a w
    · have e : U.sdiv a b = U.sdiv a b := rfl
      rw [e]
      exact divided_5 a b w ha h hb
  have HD := Lib.hid hd
  obtain ⟨V, hV⟩ : ∃ V, U.sdiv a b = V := ⟨_, rfl⟩
  rw [hV] at HD ⊢
  clear ha hb hd hV
  go_enter Tryd.func10, Tryd.ntmps10
  go_wp2_with (go_at_call 24; (with_reducible refine HD.out.mono ?_); rintro e _ ⟨rfl, rfl⟩)
  go_ret2
  exact ⟨rfl, rfl⟩
theorem ref_mod (a b : Nat) (c : Int) (w : World) (ha : a < 18446744073709551616) (hb : b < 18446744073709551616) :
    Calls Tryd.prog 10 #[.int .i64 6, .int .u64 a, .int .u64 b, .int .u64 c] w fun e w' => e = .returned (.tuple #[.int .u64 (U.mod a b), .int .i64 0]) ∧ w = w' := by
  have hd : Calls Tryd.prog 24 #[.int .i64 6, .int .u64 a, .int .u64 b] w fun e w' => e = .returned (.int .u64 (U.mod a b)) ∧ w = w' := by
    rcases Nat.eq_zero_or_pos b with h | h
    · subst h
      have e : U.mod (a : Int) ((0 : Nat) : Int) = 0 := by unfold U.mod; exact if_pos rfl
      rw [e]
      exact divided_zero 6 a w
    · have e : U.mod a b = ((a % b : Nat) : Int) := by unfold U.mod; rw [if_neg (by omega)]; rfl
      rw [e]
      exact divided_6 a b w ha h hb
  have HD := Lib.hid hd
  obtain ⟨V, hV⟩ : ∃ V, U.mod a b = V := ⟨_, rfl⟩
  rw [hV] at HD ⊢
  clear ha hb hd hV
  go_enter Tryd.func10, Tryd.ntmps10
  go_wp2_with (go_at_call 24; (with_reducible refine HD.out.mono ?_); rintro e _ ⟨rfl, rfl⟩)
  go_ret2
  exact ⟨rfl, rfl⟩
theorem ref_smod (a b : Nat) (c : Int) (w : World) (ha : a < 18446744073709551616) (hb : b < 18446744073709551616) :
    Calls Tryd.prog 10 #[.int .i64 7, .int .u64 a, .int .u64 b, .int .u64 c] w fun e w' => e = .returned (.tuple #[.int .u64 (U.smod a b), .int .i64 0]) ∧ w = w' := by
  have hd : Calls Tryd.prog 24 #[.int .i64 7, .int .u64 a, .int .u64 b] w fun e w' => e = .returned (.int .u64 (U.smod a b)) ∧ w = w' := by
    rcases Nat.eq_zero_or_pos b with h | h
    · subst h
      have e : U.smod (a : Int) ((0 : Nat) : Int) = 0 := by unfold U.smod; exact if_pos rfl
      rw [e]
      exact divided_zero 7 a w
    · have e : U.smod a b = U.smod a b := rfl
      rw [e]
      exact divided_7 a b w ha h hb
  have HD := Lib.hid hd
  obtain ⟨V, hV⟩ : ∃ V, U.smod a b = V := ⟨_, rfl⟩
  rw [hV] at HD ⊢
  clear ha hb hd hV
  go_enter Tryd.func10, Tryd.ntmps10
  go_wp2_with (go_at_call 24; (with_reducible refine HD.out.mono ?_); rintro e _ ⟨rfl, rfl⟩)
  go_ret2
  exact ⟨rfl, rfl⟩
theorem ref_nsext (a b : Nat) (c : Int) (w : World) (ha : a < 18446744073709551616) (hb : b < 18446744073709551616) :
    Calls Tryd.prog 10 #[.int .i64 11, .int .u64 a, .int .u64 b, .int .u64 c] w fun e w' => e = .returned (.tuple #[.int .u64 (Dv.nsext a b : Nat), .int .i64 0]) ∧ w = w' := by
  have HD := Lib.hid (turned_11 a b w ha hb)
  obtain ⟨V, hV⟩ : ∃ V, Dv.nsext a b = V := ⟨_, rfl⟩
  rw [hV] at HD ⊢
  clear ha hb hV
  go_enter Tryd.func10, Tryd.ntmps10
  go_wp2_with (go_at_call 27; (with_reducible refine HD.out.mono ?_); rintro e _ ⟨rfl, rfl⟩)
  go_ret2
  exact ⟨rfl, rfl⟩
theorem ref_nbyte (a b : Nat) (c : Int) (w : World) (ha : a < 18446744073709551616) (hb : b < 18446744073709551616) :
    Calls Tryd.prog 10 #[.int .i64 12, .int .u64 a, .int .u64 b, .int .u64 c] w fun e w' => e = .returned (.tuple #[.int .u64 (Dv.nbyte a b : Nat), .int .i64 0]) ∧ w = w' := by
  have HD := Lib.hid (turned_12 a b w ha hb)
  obtain ⟨V, hV⟩ : ∃ V, Dv.nbyte a b = V := ⟨_, rfl⟩
  rw [hV] at HD ⊢
  clear ha hb hV
  go_enter Tryd.func10, Tryd.ntmps10
  go_wp2_with (go_at_call 27; (with_reducible refine HD.out.mono ?_); rintro e _ ⟨rfl, rfl⟩)
  go_ret2
  exact ⟨rfl, rfl⟩
theorem ref_nshl (a b : Nat) (c : Int) (w : World) (ha : a < 18446744073709551616) (hb : b < 18446744073709551616) :
    Calls Tryd.prog 10 #[.int .i64 13, .int .u64 a, .int .u64 b, .int .u64 c] w fun e w' => e = .returned (.tuple #[.int .u64 (Dv.nshl a b : Nat), .int .i64 0]) ∧ w = w' := by
  have HD := Lib.hid (turned_13 a b w ha hb)
  obtain ⟨V, hV⟩ : ∃ V, Dv.nshl a b = V := ⟨_, rfl⟩
  rw [hV] at HD ⊢
  clear ha hb hV
  go_enter Tryd.func10, Tryd.ntmps10
  go_wp2_with (go_at_call 27; (with_reducible refine HD.out.mono ?_); rintro e _ ⟨rfl, rfl⟩)
  go_ret2
  exact ⟨rfl, rfl⟩
theorem ref_nshr (a b : Nat) (c : Int) (w : World) (ha : a < 18446744073709551616) (hb : b < 18446744073709551616) :
    Calls Tryd.prog 10 #[.int .i64 14, .int .u64 a, .int .u64 b, .int .u64 c] w fun e w' => e = .returned (.tuple #[.int .u64 (Dv.nshr a b : Nat), .int .i64 0]) ∧ w = w' := by
  have HD := Lib.hid (turned_14 a b w ha hb)
  obtain ⟨V, hV⟩ : ∃ V, Dv.nshr a b = V := ⟨_, rfl⟩
  rw [hV] at HD ⊢
  clear ha hb hV
  go_enter Tryd.func10, Tryd.ntmps10
  go_wp2_with (go_at_call 27; (with_reducible refine HD.out.mono ?_); rintro e _ ⟨rfl, rfl⟩)
  go_ret2
  exact ⟨rfl, rfl⟩
theorem ref_nsar (a b : Nat) (c : Int) (w : World) (ha : a < 18446744073709551616) (hb : b < 18446744073709551616) :
    Calls Tryd.prog 10 #[.int .i64 15, .int .u64 a, .int .u64 b, .int .u64 c] w fun e w' => e = .returned (.tuple #[.int .u64 (Dv.nsar a b : Nat), .int .i64 0]) ∧ w = w' := by
  have HD := Lib.hid (turned_15 a b w ha hb)
  obtain ⟨V, hV⟩ : ∃ V, Dv.nsar a b = V := ⟨_, rfl⟩
  rw [hV] at HD ⊢
  clear ha hb hV
  go_enter Tryd.func10, Tryd.ntmps10
  go_wp2_with (go_at_call 27; (with_reducible refine HD.out.mono ?_); rintro e _ ⟨rfl, rfl⟩)
  go_ret2
  exact ⟨rfl, rfl⟩
end W1
end Go.Proofs.YtebfecnpkifgeaaDoor
