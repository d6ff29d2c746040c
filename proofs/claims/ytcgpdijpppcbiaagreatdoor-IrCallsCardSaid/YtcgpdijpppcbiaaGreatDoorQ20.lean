/- Merged of Vap Evu Evv. Own work. -/
import Derived.Test.YtcgpdijpppcbiaaGreatDoorQ19
import Derived.Test.YtcgpdijpppcbiaaGreatDoorQ17
import Derived.Laws.Rows
namespace Go.Proofs.YtcgpdijpppcbiaaGreatDoor
open Go.RowKit
set_option linter.unusedVariables false
namespace W1
/-- mootref01.Apply answers v. -/
def Ref (op a b c : Nat) (v : Nat) : Prop := ∀ w, Calls Tryz.prog 6 #[.int .i64 op, .int .u64 a, .int .u64 b, .int .u64 c] w fun e w' => e = .returned (.tuple #[.int .u64 v, .int .i64 0]) ∧ w = w'
def sel25 (op : Nat) (x1 x2 x3 x4 x5 x6 x7 x8 x9 x10 x11 x12 x13 x14 x15 x16 x17 x18 x19 x20 x21 x22 x23 x24 x25 : Int) : Int :=
  match op with
  | 1 => x1
  | 2 => x2
  | 3 => x3
  | 4 => x4
  | 5 => x5
  | 6 => x6
  | 7 => x7
  | 8 => x8
  | 9 => x9
  | 10 => x10
  | 11 => x11
  | 12 => x12
  | 13 => x13
  | 14 => x14
  | 15 => x15
  | 16 => x16
  | 17 => x17
  | 18 => x18
  | 19 => x19
  | 20 => x20
  | 21 => x21
  | 22 => x22
  | 23 => x23
  | 24 => x24
  | 25 => x25
  | _ => 0
def apx (op a b c : Nat) : Int := sel25 op (U.add a b) (U.sub a b) (U.mul a b) (U.div a b) (U.sdiv a b) (U.mod a b) (U.smod a b) (((if c = 0 then 0 else (a + b) % c : Nat) : Int)) (((if c = 0 then 0 else a * b % c : Nat) : Int)) (U.exp a b) (U.sext a b) (U.byte a b) (U.shl a b) (U.shr a b) (U.sar a b) (U.lt a b) (U.gt a b) (U.slt a b) (U.sgt a b) (U.eq a b) (U.isz a) (U.and a b) (U.or a b) (U.xor a b) (U.not a)
theorem sel_1 (x1 x2 x3 x4 x5 x6 x7 x8 x9 x10 x11 x12 x13 x14 x15 x16 x17 x18 x19 x20 x21 x22 x23 x24 x25 : Int) : sel25 1 x1 x2 x3 x4 x5 x6 x7 x8 x9 x10 x11 x12 x13 x14 x15 x16 x17 x18 x19 x20 x21 x22 x23 x24 x25 = x1 := rfl
theorem sel_2 (x1 x2 x3 x4 x5 x6 x7 x8 x9 x10 x11 x12 x13 x14 x15 x16 x17 x18 x19 x20 x21 x22 x23 x24 x25 : Int) : sel25 2 x1 x2 x3 x4 x5 x6 x7 x8 x9 x10 x11 x12 x13 x14 x15 x16 x17 x18 x19 x20 x21 x22 x23 x24 x25 = x2 := rfl
theorem sel_3 (x1 x2 x3 x4 x5 x6 x7 x8 x9 x10 x11 x12 x13 x14 x15 x16 x17 x18 x19 x20 x21 x22 x23 x24 x25 : Int) : sel25 3 x1 x2 x3 x4 x5 x6 x7 x8 x9 x10 x11 x12 x13 x14 x15 x16 x17 x18 x19 x20 x21 x22 x23 x24 x25 = x3 := rfl
theorem sel_4 (x1 x2 x3 x4 x5 x6 x7 x8 x9 x10 x11 x12 x13 x14 x15 x16 x17 x18 x19 x20 x21 x22 x23 x24 x25 : Int) : sel25 4 x1 x2 x3 x4 x5 x6 x7 x8 x9 x10 x11 x12 x13 x14 x15 x16 x17 x18 x19 x20 x21 x22 x23 x24 x25 = x4 := rfl
theorem sel_5 (x1 x2 x3 x4 x5 x6 x7 x8 x9 x10 x11 x12 x13 x14 x15 x16 x17 x18 x19 x20 x21 x22 x23 x24 x25 : Int) : sel25 5 x1 x2 x3 x4 x5 x6 x7 x8 x9 x10 x11 x12 x13 x14 x15 x16 x17 x18 x19 x20 x21 x22 x23 x24 x25 = x5 := rfl
theorem sel_6 (x1 x2 x3 x4 x5 x6 x7 x8 x9 x10 x11 x12 x13 x14 x15 x16 x17 x18 x19 x20 x21 x22 x23 x24 x25 : Int) : sel25 6 x1 x2 x3 x4 x5 x6 x7 x8 x9 x10 x11 x12 x13 x14 x15 x16 x17 x18 x19 x20 x21 x22 x23 x24 x25 = x6 := rfl
theorem sel_7 (x1 x2 x3 x4 x5 x6 x7 x8 x9 x10 x11 x12 x13 x14 x15 x16 x17 x18 x19 x20 x21 x22 x23 x24 x25 : Int) : sel25 7 x1 x2 x3 x4 x5 x6 x7 x8 x9 x10 x11 x12 x13 x14 x15 x16 x17 x18 x19 x20 x21 x22 x23 x24 x25 = x7 := rfl
theorem sel_8 (x1 x2 x3 x4 x5 x6 x7 x8 x9 x10 x11 x12 x13 x14 x15 x16 x17 x18 x19 x20 x21 x22 x23 x24 x25 : Int) : sel25 8 x1 x2 x3 x4 x5 x6 x7 x8 x9 x10 x11 x12 x13 x14 x15 x16 x17 x18 x19 x20 x21 x22 x23 x24 x25 = x8 := rfl
theorem sel_9 (x1 x2 x3 x4 x5 x6 x7 x8 x9 x10 x11 x12 x13 x14 x15 x16 x17 x18 x19 x20 x21 x22 x23 x24 x25 : Int) : sel25 9 x1 x2 x3 x4 x5 x6 x7 x8 x9 x10 x11 x12 x13 x14 x15 x16 x17 x18 x19 x20 x21 x22 x23 x24 x25 = x9 := rfl
theorem sel_10 (x1 x2 x3 x4 x5 x6 x7 x8 x9 x10 x11 x12 x13 x14 x15 x16 x17 x18 x19 x20 x21 x22 x23 x24 x25 : Int) : sel25 10 x1 x2 x3 x4 x5 x6 x7 x8 x9 x10 x11 x12 x13 x14 x15 x16 x17 x18 x19 x20 x21 x22 x23 x24 x25 = x10 := rfl
theorem sel_11 (x1 x2 x3 x4 x5 x6 x7 x8 x9 x10 x11 x12 x13 x14 x15 x16 x17 x18 x19 x20 x21 x22 x23 x24 x25 : Int) : sel25 11 x1 x2 x3 x4 x5 x6 x7 x8 x9 x10 x11 x12 x13 x14 x15 x16 x17 x18 x19 x20 x21 x22 x23 x24 x25 = x11 := rfl
theorem sel_12 (x1 x2 x3 x4 x5 x6 x7 x8 x9 x10 x11 x12 x13 x14 x15 x16 x17 x18 x19 x20 x21 x22 x23 x24 x25 : Int) : sel25 12 x1 x2 x3 x4 x5 x6 x7 x8 x9 x10 x11 x12 x13 x14 x15 x16 x17 x18 x19 x20 x21 x22 x23 x24 x25 = x12 := rfl
theorem sel_13 (x1 x2 x3 x4 x5 x6 x7 x8 x9 x10 x11 x12 x13 x14 x15 x16 x17 x18 x19 x20 x21 x22 x23 x24 x25 : Int) : sel25 13 x1 x2 x3 x4 x5 x6 x7 x8 x9 x10 x11 x12 x13 x14 x15 x16 x17 x18 x19 x20 x21 x22 x23 x24 x25 = x13 := rfl
theorem sel_14 (x1 x2 x3 x4 x5 x6 x7 x8 x9 x10 x11 x12 x13 x14 x15 x16 x17 x18 x19 x20 x21 x22 x23 x24 x25 : Int) : sel25 14 x1 x2 x3 x4 x5 x6 x7 x8 x9 x10 x11 x12 x13 x14 x15 x16 x17 x18 x19 x20 x21 x22 x23 x24 x25 = x14 := rfl
theorem sel_15 (x1 x2 x3 x4 x5 x6 x7 x8 x9 x10 x11 x12 x13 x14 x15 x16 x17 x18 x19 x20 x21 x22 x23 x24 x25 : Int) : sel25 15 x1 x2 x3 x4 x5 x6 x7 x8 x9 x10 x11 x12 x13 x14 x15 x16 x17 x18 x19 x20 x21 x22 x23 x24 x25 = x15 := rfl
theorem sel_16 (x1 x2 x3 x4 x5 x6 x7 x8 x9 x10 x11 x12 x13 x14 x15 x16 x17 x18 x19 x20 x21 x22 x23 x24 x25 : Int) : sel25 16 x1 x2 x3 x4 x5 x6 x7 x8 x9 x10 x11 x12 x13 x14 x15 x16 x17 x18 x19 x20 x21 x22 x23 x24 x25 = x16 := rfl
theorem sel_17 (x1 x2 x3 x4 x5 x6 x7 x8 x9 x10 x11 x12 x13 x14 x15 x16 x17 x18 x19 x20 x21 x22 x23 x24 x25 : Int) : sel25 17 x1 x2 x3 x4 x5 x6 x7 x8 x9 x10 x11 x12 x13 x14 x15 x16 x17 x18 x19 x20 x21 x22 x23 x24 x25 = x17 := rfl
theorem sel_18 (x1 x2 x3 x4 x5 x6 x7 x8 x9 x10 x11 x12 x13 x14 x15 x16 x17 x18 x19 x20 x21 x22 x23 x24 x25 : Int) : sel25 18 x1 x2 x3 x4 x5 x6 x7 x8 x9 x10 x11 x12 x13 x14 x15 x16 x17 x18 x19 x20 x21 x22 x23 x24 x25 = x18 := rfl
theorem sel_19 (x1 x2 x3 x4 x5 x6 x7 x8 x9 x10 x11 x12 x13 x14 x15 x16 x17 x18 x19 x20 x21 x22 x23 x24 x25 : Int) : sel25 19 x1 x2 x3 x4 x5 x6 x7 x8 x9 x10 x11 x12 x13 x14 x15 x16 x17 x18 x19 x20 x21 x22 x23 x24 x25 = x19 := rfl
theorem sel_20 (x1 x2 x3 x4 x5 x6 x7 x8 x9 x10 x11 x12 x13 x14 x15 x16 x17 x18 x19 x20 x21 x22 x23 x24 x25 : Int) : sel25 20 x1 x2 x3 x4 x5 x6 x7 x8 x9 x10 x11 x12 x13 x14 x15 x16 x17 x18 x19 x20 x21 x22 x23 x24 x25 = x20 := rfl
theorem sel_21 (x1 x2 x3 x4 x5 x6 x7 x8 x9 x10 x11 x12 x13 x14 x15 x16 x17 x18 x19 x20 x21 x22 x23 x24 x25 : Int) : sel25 21 x1 x2 x3 x4 x5 x6 x7 x8 x9 x10 x11 x12 x13 x14 x15 x16 x17 x18 x19 x20 x21 x22 x23 x24 x25 = x21 := rfl
theorem sel_22 (x1 x2 x3 x4 x5 x6 x7 x8 x9 x10 x11 x12 x13 x14 x15 x16 x17 x18 x19 x20 x21 x22 x23 x24 x25 : Int) : sel25 22 x1 x2 x3 x4 x5 x6 x7 x8 x9 x10 x11 x12 x13 x14 x15 x16 x17 x18 x19 x20 x21 x22 x23 x24 x25 = x22 := rfl
theorem sel_23 (x1 x2 x3 x4 x5 x6 x7 x8 x9 x10 x11 x12 x13 x14 x15 x16 x17 x18 x19 x20 x21 x22 x23 x24 x25 : Int) : sel25 23 x1 x2 x3 x4 x5 x6 x7 x8 x9 x10 x11 x12 x13 x14 x15 x16 x17 x18 x19 x20 x21 x22 x23 x24 x25 = x23 := rfl
theorem sel_24 (x1 x2 x3 x4 x5 x6 x7 x8 x9 x10 x11 x12 x13 x14 x15 x16 x17 x18 x19 x20 x21 x22 x23 x24 x25 : Int) : sel25 24 x1 x2 x3 x4 x5 x6 x7 x8 x9 x10 x11 x12 x13 x14 x15 x16 x17 x18 x19 x20 x21 x22 x23 x24 x25 = x24 := rfl
theorem sel_25 (x1 x2 x3 x4 x5 x6 x7 x8 x9 x10 x11 x12 x13 x14 x15 x16 x17 x18 x19 x20 x21 x22 x23 x24 x25 : Int) : sel25 25 x1 x2 x3 x4 x5 x6 x7 x8 x9 x10 x11 x12 x13 x14 x15 x16 x17 x18 x19 x20 x21 x22 x23 x24 x25 = x25 := rfl
theorem apx_eq1 (a b c : Nat) : apx 1 a b c = U.add a b := sel_1 _ _ _ _ _ _ _ _ _ _ _ _ _ _ _ _ _ _ _ _ _ _ _ _ _
theorem apx_eq2 (a b c : Nat) : apx 2 a b c = U.sub a b := sel_2 _ _ _ _ _ _ _ _ _ _ _ _ _ _ _ _ _ _ _ _ _ _ _ _ _
theorem apx_eq3 (a b c : Nat) : apx 3 a b c = U.mul a b := sel_3 _ _ _ _ _ _ _ _ _ _ _ _ _ _ _ _ _ _ _ _ _ _ _ _ _
theorem apx_eq4 (a b c : Nat) : apx 4 a b c = U.div a b := sel_4 _ _ _ _ _ _ _ _ _ _ _ _ _ _ _ _ _ _ _ _ _ _ _ _ _
theorem apx_eq5 (a b c : Nat) : apx 5 a b c = U.sdiv a b := sel_5 _ _ _ _ _ _ _ _ _ _ _ _ _ _ _ _ _ _ _ _ _ _ _ _ _
theorem apx_eq6 (a b c : Nat) : apx 6 a b c = U.mod a b := sel_6 _ _ _ _ _ _ _ _ _ _ _ _ _ _ _ _ _ _ _ _ _ _ _ _ _
theorem apx_eq7 (a b c : Nat) : apx 7 a b c = U.smod a b := sel_7 _ _ _ _ _ _ _ _ _ _ _ _ _ _ _ _ _ _ _ _ _ _ _ _ _
theorem apx_eq8 (a b c : Nat) : apx 8 a b c = ((if c = 0 then 0 else (a + b) % c : Nat) : Int) := sel_8 _ _ _ _ _ _ _ _ _ _ _ _ _ _ _ _ _ _ _ _ _ _ _ _ _
theorem apx_eq9 (a b c : Nat) : apx 9 a b c = ((if c = 0 then 0 else a * b % c : Nat) : Int) := sel_9 _ _ _ _ _ _ _ _ _ _ _ _ _ _ _ _ _ _ _ _ _ _ _ _ _
theorem apx_eq10 (a b c : Nat) : apx 10 a b c = U.exp a b := sel_10 _ _ _ _ _ _ _ _ _ _ _ _ _ _ _ _ _ _ _ _ _ _ _ _ _
theorem apx_eq11 (a b c : Nat) : apx 11 a b c = U.sext a b := sel_11 _ _ _ _ _ _ _ _ _ _ _ _ _ _ _ _ _ _ _ _ _ _ _ _ _
theorem apx_eq12 (a b c : Nat) : apx 12 a b c = U.byte a b := sel_12 _ _ _ _ _ _ _ _ _ _ _ _ _ _ _ _ _ _ _ _ _ _ _ _ _
theorem apx_eq13 (a b c : Nat) : apx 13 a b c = U.shl a b := sel_13 _ _ _ _ _ _ _ _ _ _ _ _ _ _ _ _ _ _ _ _ _ _ _ _ _
theorem apx_eq14 (a b c : Nat) : apx 14 a b c = U.shr a b := sel_14 _ _ _ _ _ _ _ _ _ _ _ _ _ _ _ _ _ _ _ _ _ _ _ _ _
theorem apx_eq15 (a b c : Nat) : apx 15 a b c = U.sar a b := sel_15 _ _ _ _ _ _ _ _ _ _ _ _ _ _ _ _ _ _ _ _ _ _ _ _ _
theorem apx_eq16 (a b c : Nat) : apx 16 a b c = U.lt a b := sel_16 _ _ _ _ _ _ _ _ _ _ _ _ _ _ _ _ _ _ _ _ _ _ _ _ _
theorem apx_eq17 (a b c : Nat) : apx 17 a b c = U.gt a b := sel_17 _ _ _ _ _ _ _ _ _ _ _ _ _ _ _ _ _ _ _ _ _ _ _ _ _
theorem apx_eq18 (a b c : Nat) : apx 18 a b c = U.slt a b := sel_18 _ _ _ _ _ _ _ _ _ _ _ _ _ _ _ _ _ _ _ _ _ _ _ _ _
theorem apx_eq19 (a b c : Nat) : apx 19 a b c = U.sgt a b := sel_19 _ _ _ _ _ _ _ _ _ _ _ _ _ _ _ _ _ _ _ _ _ _ _ _ _
theorem apx_eq20 (a b c : Nat) : apx 20 a b c = U.eq a b := sel_20 _ _ _ _ _ _ _ _ _ _ _ _ _ _ _ _ _ _ _ _ _ _ _ _ _
theorem apx_eq21 (a b c : Nat) : apx 21 a b c = U.isz a := sel_21 _ _ _ _ _ _ _ _ _ _ _ _ _ _ _ _ _ _ _ _ _ _ _ _ _
theorem apx_eq22 (a b c : Nat) : apx 22 a b c = U.and a b := sel_22 _ _ _ _ _ _ _ _ _ _ _ _ _ _ _ _ _ _ _ _ _ _ _ _ _
theorem apx_eq23 (a b c : Nat) : apx 23 a b c = U.or a b := sel_23 _ _ _ _ _ _ _ _ _ _ _ _ _ _ _ _ _ _ _ _ _ _ _ _ _
theorem apx_eq24 (a b c : Nat) : apx 24 a b c = U.xor a b := sel_24 _ _ _ _ _ _ _ _ _ _ _ _ _ _ _ _ _ _ _ _ _ _ _ _ _
theorem apx_eq25 (a b c : Nat) : apx 25 a b c = U.not a := sel_25 _ _ _ _ _ _ _ _ _ _ _ _ _ _ _ _ _ _ _ _ _ _ _ _ _
theorem two_of {op a b c : Nat} {V : Int} (hv : U.Ok V) (h : ∀ w, Calls Tryz.prog 81 #[.int .i64 op, .int .u64 a, .int .u64 b, .int .u64 c] w fun e w' => e = .returned (.tuple #[.int .u64 V, .nilIface]) ∧ w = w')
    (h2 : ∀ w, Calls Tryz.prog 6 #[.int .i64 op, .int .u64 a, .int .u64 b, .int .u64 c] w fun e w' => e = .returned (.tuple #[.int .u64 V, .int .i64 0]) ∧ w = w') : App op a b c V.toNat ∧ Ref op a b c V.toNat := by
  unfold U.Ok at hv
  obtain ⟨v, rfl⟩ : ∃ v : Nat, V = v := ⟨V.toNat, by omega⟩
  rw [Int.toNat_natCast]
  exact ⟨⟨by omega, fun w => (h w).mono fun _ _ ⟨he, hw⟩ => ⟨he, 0, hw.symm⟩⟩, h2⟩
theorem apx_1 (a b c : Nat) (ha : a < 18446744073709551616) (hb : b < 18446744073709551616) (hc : c < 18446744073709551616) : App 1 a b c (apx 1 a b c).toNat ∧ Ref 1 a b c (apx 1 a b c).toNat := by
  rw [apx_eq1]
  exact two_of (V := U.add a b) (U.add_ok a b) (fun w => app_add a b c w (okU ha) (okU hb)) (fun w => ref_add a b c w (okU ha) (okU hb))
theorem apx_2 (a b c : Nat) (ha : a < 18446744073709551616) (hb : b < 18446744073709551616) (hc : c < 18446744073709551616) : App 2 a b c (apx 2 a b c).toNat ∧ Ref 2 a b c (apx 2 a b c).toNat := by
  rw [apx_eq2]
  exact two_of (V := U.sub a b) (U.sub_ok a b) (fun w => app_sub a b c w (okU ha) (okU hb)) (fun w => ref_sub a b c w (okU ha) (okU hb))
theorem apx_3 (a b c : Nat) (ha : a < 18446744073709551616) (hb : b < 18446744073709551616) (hc : c < 18446744073709551616) : App 3 a b c (apx 3 a b c).toNat ∧ Ref 3 a b c (apx 3 a b c).toNat := by
  rw [apx_eq3]
  exact two_of (V := U.mul a b) (U.mul_ok a b) (fun w => app_mul a b c w (okU ha) (okU hb)) (fun w => ref_mul a b c w ha hb)
theorem apx_4 (a b c : Nat) (ha : a < 18446744073709551616) (hb : b < 18446744073709551616) (hc : c < 18446744073709551616) : App 4 a b c (apx 4 a b c).toNat ∧ Ref 4 a b c (apx 4 a b c).toNat := by
  rw [apx_eq4]
  exact two_of (V := U.div a b) (U.div_ok (okU ha) (okU hb)) (fun w => app_div a b c w (okU ha) (okU hb)) (fun w => ref_div a b c w ha hb)
theorem apx_5 (a b c : Nat) (ha : a < 18446744073709551616) (hb : b < 18446744073709551616) (hc : c < 18446744073709551616) : App 5 a b c (apx 5 a b c).toNat ∧ Ref 5 a b c (apx 5 a b c).toNat := by
  rw [apx_eq5]
  exact two_of (V := U.sdiv a b) (U.sdiv_ok (okU ha) (okU hb)) (fun w => app_sdiv a b c w (okU ha) (okU hb)) (fun w => ref_sdiv a b c w ha hb)
theorem apx_6 (a b c : Nat) (ha : a < 18446744073709551616) (hb : b < 18446744073709551616) (hc : c < 18446744073709551616) : App 6 a b c (apx 6 a b c).toNat ∧ Ref 6 a b c (apx 6 a b c).toNat := by
  rw [apx_eq6]
  exact two_of (V := U.mod a b) (U.mod_ok (okU ha) (okU hb)) (fun w => app_mod a b c w (okU ha) (okU hb)) (fun w => ref_mod a b c w ha hb)
theorem apx_7 (a b c : Nat) (ha : a < 18446744073709551616) (hb : b < 18446744073709551616) (hc : c < 18446744073709551616) : App 7 a b c (apx 7 a b c).toNat ∧ Ref 7 a b c (apx 7 a b c).toNat := by
  rw [apx_eq7]
  exact two_of (V := U.smod a b) (U.smod_ok (okU ha) (okU hb)) (fun w => app_smod a b c w (okU ha) (okU hb)) (fun w => ref_smod a b c w ha hb)
theorem apx_8 (a b c : Nat) (ha : a < 18446744073709551616) (hb : b < 18446744073709551616) (hc : c < 18446744073709551616) : App 8 a b c (apx 8 a b c).toNat ∧ Ref 8 a b c (apx 8 a b c).toNat := by
  rw [apx_eq8, Int.toNat_natCast]
  show App 8 a b c (if c = 0 then 0 else (a + b) % c) ∧ Ref 8 a b c (if c = 0 then 0 else (a + b) % c)
  refine ⟨⟨?_, fun w => app_addmod a b c w ha hb hc⟩, fun w => ?_⟩
  · split
    · decide
    · exact Nat.lt_trans (Nat.mod_lt _ (by omega)) hc
  · rcases Nat.eq_zero_or_pos c with h | h
    · subst h; exact ref_mod8 a b w ⟨by omega, by omega⟩ ⟨by omega, by omega⟩
    · rw [if_neg (by omega)]; exact ref_addmod a b c w ha hb hc h
theorem apx_9 (a b c : Nat) (ha : a < 18446744073709551616) (hb : b < 18446744073709551616) (hc : c < 18446744073709551616) : App 9 a b c (apx 9 a b c).toNat ∧ Ref 9 a b c (apx 9 a b c).toNat := by
  rw [apx_eq9, Int.toNat_natCast]
  show App 9 a b c (if c = 0 then 0 else a * b % c) ∧ Ref 9 a b c (if c = 0 then 0 else a * b % c)
  refine ⟨⟨?_, fun w => app_mulmod a b c w ha hb hc⟩, fun w => ?_⟩
  · split
    · decide
    · exact Nat.lt_trans (Nat.mod_lt _ (by omega)) hc
  · rcases Nat.eq_zero_or_pos c with h | h
    · subst h; exact ref_mod9 a b w ⟨by omega, by omega⟩ ⟨by omega, by omega⟩
    · rw [if_neg (by omega)]; exact ref_mulmod a b c w ha hb hc h
theorem apx_10 (a b c : Nat) (ha : a < 18446744073709551616) (hb : b < 18446744073709551616) (hc : c < 18446744073709551616) : App 10 a b c (apx 10 a b c).toNat ∧ Ref 10 a b c (apx 10 a b c).toNat := by
  rw [apx_eq10]
  exact two_of (V := U.exp a b) (U.exp_ok (okU ha) (okU hb)) (fun w => apply_exp a b c w (okU ha) (okU hb)) (fun w => by rw [show U.exp a b = ((a ^ b % 18446744073709551616 : Nat) : Int) from by unfold U.exp; rw [Int.toNat_natCast, ← Int.natCast_pow]; rfl]; exact ref_exp a b c w ha hb)
theorem apx_11 (a b c : Nat) (ha : a < 18446744073709551616) (hb : b < 18446744073709551616) (hc : c < 18446744073709551616) : App 11 a b c (apx 11 a b c).toNat ∧ Ref 11 a b c (apx 11 a b c).toNat := by
  rw [apx_eq11]
  exact two_of (V := U.sext a b) (U.sext_ok (okU ha) (okU hb)) (fun w => app_sext a b c w (okU ha) (okU hb)) (fun w => by rw [usext a b hb]; exact ref_nsext a b c w ha hb)
theorem apx_12 (a b c : Nat) (ha : a < 18446744073709551616) (hb : b < 18446744073709551616) (hc : c < 18446744073709551616) : App 12 a b c (apx 12 a b c).toNat ∧ Ref 12 a b c (apx 12 a b c).toNat := by
  rw [apx_eq12]
  exact two_of (V := U.byte a b) (U.byte_ok (okU ha) (okU hb)) (fun w => app_byte a b c w (okU ha) (okU hb)) (fun w => by rw [ubyte a b]; exact ref_nbyte a b c w ha hb)
theorem apx_13 (a b c : Nat) (ha : a < 18446744073709551616) (hb : b < 18446744073709551616) (hc : c < 18446744073709551616) : App 13 a b c (apx 13 a b c).toNat ∧ Ref 13 a b c (apx 13 a b c).toNat := by
  rw [apx_eq13]
  exact two_of (V := U.shl a b) (U.shl_ok (okU ha) (okU hb)) (fun w => app_shl a b c w (okU ha) (okU hb)) (fun w => by rw [ushl a b]; exact ref_nshl a b c w ha hb)
theorem apx_14 (a b c : Nat) (ha : a < 18446744073709551616) (hb : b < 18446744073709551616) (hc : c < 18446744073709551616) : App 14 a b c (apx 14 a b c).toNat ∧ Ref 14 a b c (apx 14 a b c).toNat := by
  rw [apx_eq14]
  exact two_of (V := U.shr a b) (U.shr_ok (okU ha) (okU hb)) (fun w => app_shr a b c w (okU ha) (okU hb)) (fun w => by rw [ushr a b]; exact ref_nshr a b c w ha hb)
theorem apx_15 (a b c : Nat) (ha : a < 18446744073709551616) (hb : b < 18446744073709551616) (hc : c < 18446744073709551616) : App 15 a b c (apx 15 a b c).toNat ∧ Ref 15 a b c (apx 15 a b c).toNat := by
  rw [apx_eq15]
  exact two_of (V := U.sar a b) (U.sar_ok (okU ha) (okU hb)) (fun w => app_sar a b c w (okU ha) (okU hb)) (fun w => by rw [usar a b hb]; exact ref_nsar a b c w ha hb)
theorem apx_16 (a b c : Nat) (ha : a < 18446744073709551616) (hb : b < 18446744073709551616) (hc : c < 18446744073709551616) : App 16 a b c (apx 16 a b c).toNat ∧ Ref 16 a b c (apx 16 a b c).toNat := by
  rw [apx_eq16]
  exact two_of (V := U.lt a b) (U.b2_ok _) (fun w => app_lt a b c w (okU ha) (okU hb)) (fun w => ref_lt a b c w (okU ha) (okU hb))
theorem apx_17 (a b c : Nat) (ha : a < 18446744073709551616) (hb : b < 18446744073709551616) (hc : c < 18446744073709551616) : App 17 a b c (apx 17 a b c).toNat ∧ Ref 17 a b c (apx 17 a b c).toNat := by
  rw [apx_eq17]
  exact two_of (V := U.gt a b) (U.b2_ok _) (fun w => app_gt a b c w (okU ha) (okU hb)) (fun w => ref_gt a b c w (okU ha) (okU hb))
theorem apx_18 (a b c : Nat) (ha : a < 18446744073709551616) (hb : b < 18446744073709551616) (hc : c < 18446744073709551616) : App 18 a b c (apx 18 a b c).toNat ∧ Ref 18 a b c (apx 18 a b c).toNat := by
  rw [apx_eq18]
  exact two_of (V := U.slt a b) (U.b2_ok _) (fun w => app_slt a b c w (okU ha) (okU hb)) (fun w => ref_slt a b c w (okU ha) (okU hb))
theorem apx_19 (a b c : Nat) (ha : a < 18446744073709551616) (hb : b < 18446744073709551616) (hc : c < 18446744073709551616) : App 19 a b c (apx 19 a b c).toNat ∧ Ref 19 a b c (apx 19 a b c).toNat := by
  rw [apx_eq19]
  exact two_of (V := U.sgt a b) (U.b2_ok _) (fun w => app_sgt a b c w (okU ha) (okU hb)) (fun w => ref_sgt a b c w (okU ha) (okU hb))
theorem apx_20 (a b c : Nat) (ha : a < 18446744073709551616) (hb : b < 18446744073709551616) (hc : c < 18446744073709551616) : App 20 a b c (apx 20 a b c).toNat ∧ Ref 20 a b c (apx 20 a b c).toNat := by
  rw [apx_eq20]
  exact two_of (V := U.eq a b) (U.b2_ok _) (fun w => app_eq a b c w (okU ha) (okU hb)) (fun w => ref_eq a b c w (okU ha) (okU hb))
theorem apx_21 (a b c : Nat) (ha : a < 18446744073709551616) (hb : b < 18446744073709551616) (hc : c < 18446744073709551616) : App 21 a b c (apx 21 a b c).toNat ∧ Ref 21 a b c (apx 21 a b c).toNat := by
  rw [apx_eq21]
  exact two_of (V := U.isz a) (U.b2_ok _) (fun w => app_isz a b c w (okU ha) (okU hb)) (fun w => ref_isz a b c w (okU ha) (okU hb))
theorem apx_22 (a b c : Nat) (ha : a < 18446744073709551616) (hb : b < 18446744073709551616) (hc : c < 18446744073709551616) : App 22 a b c (apx 22 a b c).toNat ∧ Ref 22 a b c (apx 22 a b c).toNat := by
  rw [apx_eq22]
  exact two_of (V := U.and a b) (U.and_ok (okU ha)) (fun w => app_and a b c w (okU ha) (okU hb)) (fun w => ref_and a b c w (okU ha) (okU hb))
theorem apx_23 (a b c : Nat) (ha : a < 18446744073709551616) (hb : b < 18446744073709551616) (hc : c < 18446744073709551616) : App 23 a b c (apx 23 a b c).toNat ∧ Ref 23 a b c (apx 23 a b c).toNat := by
  rw [apx_eq23]
  exact two_of (V := U.or a b) (U.or_ok (okU ha) (okU hb)) (fun w => app_or a b c w (okU ha) (okU hb)) (fun w => ref_or a b c w (okU ha) (okU hb))
theorem apx_24 (a b c : Nat) (ha : a < 18446744073709551616) (hb : b < 18446744073709551616) (hc : c < 18446744073709551616) : App 24 a b c (apx 24 a b c).toNat ∧ Ref 24 a b c (apx 24 a b c).toNat := by
  rw [apx_eq24]
  exact two_of (V := U.xor a b) (U.xor_ok (okU ha) (okU hb)) (fun w => app_xor a b c w (okU ha) (okU hb)) (fun w => ref_xor a b c w (okU ha) (okU hb))
theorem apx_25 (a b c : Nat) (ha : a < 18446744073709551616) (hb : b < 18446744073709551616) (hc : c < 18446744073709551616) : App 25 a b c (apx 25 a b c).toNat ∧ Ref 25 a b c (apx 25 a b c).toNat := by
  rw [apx_eq25]
  exact two_of (V := U.not a) (U.not_ok (okU ha)) (fun w => app_not a b c w (okU ha) (okU hb)) (fun w => ref_not a b c w (okU ha) (okU hb))
theorem apx_ok (op a b c : Nat) (h1 : 1 ≤ op) (h25 : op ≤ 25) (ha : a < 18446744073709551616) (hb : b < 18446744073709551616) (hc : c < 18446744073709551616) : App op a b c (apx op a b c).toNat ∧ Ref op a b c (apx op a b c).toNat := by
  have hcase : op = 1 ∨ op = 2 ∨ op = 3 ∨ op = 4 ∨ op = 5 ∨ op = 6 ∨ op = 7 ∨ op = 8 ∨ op = 9 ∨ op = 10 ∨ op = 11 ∨ op = 12 ∨ op = 13 ∨ op = 14 ∨ op = 15 ∨ op = 16 ∨ op = 17 ∨ op = 18 ∨ op = 19 ∨ op = 20 ∨ op = 21 ∨ op = 22 ∨ op = 23 ∨ op = 24 ∨ op = 25 := by omega
  rcases hcase with rfl | rfl | rfl | rfl | rfl | rfl | rfl | rfl | rfl | rfl | rfl | rfl | rfl | rfl | rfl | rfl | rfl | rfl | rfl | rfl | rfl | rfl | rfl | rfl | rfl
  · exact apx_1 a b c ha hb hc
  · exact apx_2 a b c ha hb hc
  · exact apx_3 a b c ha hb hc
  · exact apx_4 a b c ha hb hc
  · exact apx_5 a b c ha hb hc
  · exact apx_6 a b c ha hb hc
  · exact apx_7 a b c ha hb hc
  · exact apx_8 a b c ha hb hc
  · exact apx_9 a b c ha hb hc
  · exact apx_10 a b c ha hb hc
  · exact apx_11 a b c ha hb hc
  · exact apx_12 a b c ha hb hc
  · exact apx_13 a b c ha hb hc
  · exact apx_14 a b c ha hb hc
  · exact apx_15 a b c ha hb hc
  · exact apx_16 a b c ha hb hc
  · exact apx_17 a b c ha hb hc
  · exact apx_18 a b c ha hb hc
  · exact apx_19 a b c ha hb hc
  · exact apx_20 a b c ha hb hc
  · exact apx_21 a b c ha hb hc
  · exact apx_22 a b c ha hb hc
  · exact apx_23 a b c ha hb hc
  · exact apx_24 a b c ha hb hc
  · exact apx_25 a b c ha hb hc
end W1
end Go.Proofs.YtcgpdijpppcbiaaGreatDoor
namespace Go.Proofs.YtcgpdijpppcbiaaGreatDoor
open Go.RowKit
set_option linter.unusedVariables false
set_option linter.unusedSimpArgs false
namespace Ir
open Kc
theorem infX3 {a b c : Value} : (Tryz.prog.info? 30).map (·.size) = some (#[a, b, c] : Array Value).size := by kernel_rfl
theorem constant_walk (n : Nat) (w : World) : Calls Tryz.prog 9 #[.int .u64 n] w fun e w' => e = .returned (.agg #[.int .i64 26, .int .u64 n, .slice none 0 0]) ∧ Kept (fun _ => False) w w' := by
  have hra := heap_alloc_last w (.cells zX 30)
  have hk := kept_alloc9 w (.cells zX 30)
  have HZ := Lib.hid hra
  have HK := Lib.hid hk
  have hlt : w.heap.size < (w.alloc (.cells zX 30)).heap.size := by simp
  clear hra hk
  go_enter Tryz.func9, Tryz.ntmps9
  go_upto_region 1 with (fail)
  generalize w.alloc (.cells zX 30) = y0 at *
  generalize hq : w.heap.size = q at HZ hlt
  go_wp2_with (((with_reducible refine wpList_store_row (P := Tryz.prog) (w := y0) ?_ 30 (.tmp 2) (.tmp 4) ?_ q #[.int .i64 26, .int .u64 n, .slice none 0 0] ?_ ?_ 30 zX HZ.out infX3 rfl (by simp [Value.oneCell']) ?_); (· exact rfl); (· exact rfl); (· exact rfl); (· exact rfl)))
  have hrow := setRow_heap y0 q zX #[.int .i64 26, .int .u64 n, .slice none 0 0] 30 (0, 0) HZ.out
  have hkr : Kept (fun k => k = q) y0 (y0.setRow q #[.int .i64 26, .int .u64 n, .slice none 0 0]) := ⟨by simp, by simp, by simp, by simp, fun k hk hn => setRow_other y0 q k _ hn⟩
  exact bodyPost_ret (results_cell_row rfl _ _ q 30 _ (0, 0) _ rfl hrow undX rfl infX) rfl ⟨rfl, HK.out.trans hkr fun k hk e => by omega⟩
theorem local9_walk (n : Nat) (w : World) : Calls Tryz.prog 7 #[.int .u64 n] w fun e w' => e = .returned (.agg #[.int .i64 27, .int .u64 n, .slice none 0 0]) ∧ Kept (fun _ => False) w w' := by
  have hra := heap_alloc_last w (.cells zX 30)
  have hk := kept_alloc9 w (.cells zX 30)
  have HZ := Lib.hid hra
  have HK := Lib.hid hk
  have hlt : w.heap.size < (w.alloc (.cells zX 30)).heap.size := by simp
  clear hra hk
  go_enter Tryz.func7, Tryz.ntmps7
  go_upto_region 1 with (fail)
  generalize w.alloc (.cells zX 30) = y0 at *
  generalize hq : w.heap.size = q at HZ hlt
  go_wp2_with (((with_reducible refine wpList_store_row (P := Tryz.prog) (w := y0) ?_ 30 (.tmp 2) (.tmp 4) ?_ q #[.int .i64 27, .int .u64 n, .slice none 0 0] ?_ ?_ 30 zX HZ.out infX3 rfl (by simp [Value.oneCell']) ?_); (· exact rfl); (· exact rfl); (· exact rfl); (· exact rfl)))
  have hrow := setRow_heap y0 q zX #[.int .i64 27, .int .u64 n, .slice none 0 0] 30 (0, 0) HZ.out
  have hkr : Kept (fun k => k = q) y0 (y0.setRow q #[.int .i64 27, .int .u64 n, .slice none 0 0]) := ⟨by simp, by simp, by simp, by simp, fun k hk hn => setRow_other y0 q k _ hn⟩
  exact bodyPost_ret (results_cell_row rfl _ _ q 30 _ (0, 0) _ rfl hrow undX rfl infX) rfl ⟨rfl, HK.out.trans hkr fun k hk e => by omega⟩
theorem op9_walk (k : Int) (a : Option Addr) (n c : Nat) (w : World) : Calls Tryz.prog 8 #[.int .i64 k, .slice a n c] w fun e w' => e = .returned (.agg #[.int .i64 k, .int .u64 0, .slice a n c]) ∧ Kept (fun _ => False) w w' := by
  have hra := heap_alloc_last w (.cells zX 30)
  have hk := kept_alloc9 w (.cells zX 30)
  have HZ := Lib.hid hra
  have HK := Lib.hid hk
  have hlt : w.heap.size < (w.alloc (.cells zX 30)).heap.size := by simp
  clear hra hk
  go_enter Tryz.func8, Tryz.ntmps8
  go_upto_region 1 with (fail)
  generalize w.alloc (.cells zX 30) = y0 at *
  generalize hq : w.heap.size = q at HZ hlt
  go_wp2_with (((with_reducible refine wpList_store_row (P := Tryz.prog) (w := y0) ?_ 30 (.tmp 4) (.tmp 7) ?_ q #[.int .i64 k, .int .u64 0, .slice a n c] ?_ ?_ 30 zX HZ.out infX3 rfl (by simp [Value.oneCell']) ?_); (· exact rfl); (· exact rfl); (· exact rfl); (· exact rfl)))
  have hrow := setRow_heap y0 q zX #[.int .i64 k, .int .u64 0, .slice a n c] 30 (0, 0) HZ.out
  have hkr : Kept (fun k => k = q) y0 (y0.setRow q #[.int .i64 k, .int .u64 0, .slice a n c]) := ⟨by simp, by simp, by simp, by simp, fun k hk hn => setRow_other y0 q k _ hn⟩
  exact bodyPost_ret (results_cell_row rfl _ _ q 30 _ (0, 0) _ rfl hrow undX rfl infX) rfl ⟨rfl, HK.out.trans hkr fun k hk e => by omega⟩
theorem slSn {w : World} {D : Nat → Prop} {a : Option Addr} {n c b o : Nat} {x : Sf} (h : SlS w D (.slice a n c) x) (hc : w.cell? ⟨b, o, none⟩ = some (.slice a n c)) : ∃ a c, w.cell? ⟨b, o, none⟩ = some (.slice a x.len c) ∧ x.len < 1099511627776 ∧ (x = .nil ∨ ∃ b' o', a = some ⟨b', o', none⟩ ∧ SfAt w D x b' o') := by
  obtain ⟨a', c', e, hl, h⟩ := h
  injection e with e1 e2 e3
  subst e1; subst e2; subst e3
  exact ⟨_, _, hc, hl, h⟩
theorem slEn {w : World} {D : Nat → Prop} : SlE w D (.slice none 0 0) .nil := ⟨none, 0, rfl, by decide, .inl rfl⟩
theorem slS0 {w : World} {D : Nat → Prop} : SlS w D (.slice none 0 0) .nil := ⟨none, 0, rfl, by decide, .inl rfl⟩
theorem sx1 {y : World} {D : Nat → Prop} {kind0 n0 ao0 bo0 : Int} {an0 bn0 nA0 cA0 nB0 cB0 nC0 cC0 nD0 cD0 : Nat} {aA0 aB0 aC0 aD0 : Option Addr} {ak0 bk0 : Ef} {body0 els0 : Sf} (hd : D y.heap.size) (hA0 : SlE y D (.slice aA0 nA0 cA0) ak0) (hB0 : SlE y D (.slice aB0 nB0 cB0) bk0) (hC0 : SlS y D (.slice aC0 nC0 cC0) body0) (hD0 : SlS y D (.slice aD0 nD0 cD0) els0) (han0 : an0 < 18446744073709551616) (hbn0 : bn0 < 18446744073709551616) :
    SlS (y.alloc (.cells #[.int .i64 kind0, .int .i64 n0, .int .i64 ao0, .int .u64 an0, .slice aA0 nA0 cA0, .int .i64 bo0, .int .u64 bn0, .slice aB0 nB0 cB0, .slice aC0 nC0 cC0, .slice aD0 nD0 cD0] 35)) D (.slice (some ⟨y.heap.size, 0, none⟩) 1 1) (.cons kind0 n0 ao0 an0 ak0 bo0 bn0 bk0 body0 els0 .nil) := by
  have hk := kept_alloc9 y (.cells #[.int .i64 kind0, .int .i64 n0, .int .i64 ao0, .int .u64 an0, .slice aA0 nA0 cA0, .int .i64 bo0, .int .u64 bn0, .slice aB0 nB0 cB0, .slice aC0 nC0 cC0, .slice aD0 nD0 cD0] 35)
  exact ⟨_, 1, rfl, by simp [Sf.len], .inr ⟨y.heap.size, 0, rfl, ⟨hd, han0, hbn0, xc 0 _ rfl, xc 1 _ rfl, xc 2 _ rfl, xc 3 _ rfl, ⟨_, xc 4 _ rfl, hA0.kept hk fun _ _ => id⟩, xc 5 _ rfl, xc 6 _ rfl, ⟨_, xc 7 _ rfl, hB0.kept hk fun _ _ => id⟩, slSn (hC0.kept hk fun _ _ => id) (xc 8 _ rfl), slSn (hD0.kept hk fun _ _ => id) (xc 9 _ rfl), trivial⟩⟩⟩
theorem buildS1 (l0_0 l0_1 l0_2 l0_3 l0_4 l0_5 l0_6 l0_7 l0_8 l0_9 : Value) (w : World) : (Instr.buildSlice 33 1 #[(0, .agg #[l0_0, l0_1, l0_2, l0_3, l0_4, l0_5, l0_6, l0_7, l0_8, l0_9])]).run Tryz.prog w = .ok (.slice (some ⟨w.heap.size, 0, none⟩) 1 1) (w.alloc (.cells #[l0_0, l0_1, l0_2, l0_3, l0_4, l0_5, l0_6, l0_7, l0_8, l0_9] 35)) := by kernel_rfl
theorem sx2 {y : World} {D : Nat → Prop} {kind0 n0 ao0 bo0 : Int} {an0 bn0 nA0 cA0 nB0 cB0 nC0 cC0 nD0 cD0 : Nat} {aA0 aB0 aC0 aD0 : Option Addr} {ak0 bk0 : Ef} {body0 els0 : Sf} {kind1 n1 ao1 bo1 : Int} {an1 bn1 nA1 cA1 nB1 cB1 nC1 cC1 nD1 cD1 : Nat} {aA1 aB1 aC1 aD1 : Option Addr} {ak1 bk1 : Ef} {body1 els1 : Sf} (hd : D y.heap.size) (hA0 : SlE y D (.slice aA0 nA0 cA0) ak0) (hB0 : SlE y D (.slice aB0 nB0 cB0) bk0) (hC0 : SlS y D (.slice aC0 nC0 cC0) body0) (hD0 : SlS y D (.slice aD0 nD0 cD0) els0) (han0 : an0 < 18446744073709551616) (hbn0 : bn0 < 18446744073709551616) (hA1 : SlE y D (.slice aA1 nA1 cA1) ak1) (hB1 : SlE y D (.slice aB1 nB1 cB1) bk1) (hC1 : SlS y D (.slice aC1 nC1 cC1) body1) (hD1 : SlS y D (.slice aD1 nD1 cD1) els1) (han1 : an1 < 18446744073709551616) (hbn1 : bn1 < 18446744073709551616) :
    SlS (y.alloc (.cells #[.int .i64 kind0, .int .i64 n0, .int .i64 ao0, .int .u64 an0, .slice aA0 nA0 cA0, .int .i64 bo0, .int .u64 bn0, .slice aB0 nB0 cB0, .slice aC0 nC0 cC0, .slice aD0 nD0 cD0, .int .i64 kind1, .int .i64 n1, .int .i64 ao1, .int .u64 an1, .slice aA1 nA1 cA1, .int .i64 bo1, .int .u64 bn1, .slice aB1 nB1 cB1, .slice aC1 nC1 cC1, .slice aD1 nD1 cD1] 35)) D (.slice (some ⟨y.heap.size, 0, none⟩) 2 2) (.cons kind0 n0 ao0 an0 ak0 bo0 bn0 bk0 body0 els0 (.cons kind1 n1 ao1 an1 ak1 bo1 bn1 bk1 body1 els1 .nil)) := by
  have hk := kept_alloc9 y (.cells #[.int .i64 kind0, .int .i64 n0, .int .i64 ao0, .int .u64 an0, .slice aA0 nA0 cA0, .int .i64 bo0, .int .u64 bn0, .slice aB0 nB0 cB0, .slice aC0 nC0 cC0, .slice aD0 nD0 cD0, .int .i64 kind1, .int .i64 n1, .int .i64 ao1, .int .u64 an1, .slice aA1 nA1 cA1, .int .i64 bo1, .int .u64 bn1, .slice aB1 nB1 cB1, .slice aC1 nC1 cC1, .slice aD1 nD1 cD1] 35)
  exact ⟨_, 2, rfl, by simp [Sf.len], .inr ⟨y.heap.size, 0, rfl, ⟨hd, han0, hbn0, xc 0 _ rfl, xc 1 _ rfl, xc 2 _ rfl, xc 3 _ rfl, ⟨_, xc 4 _ rfl, hA0.kept hk fun _ _ => id⟩, xc 5 _ rfl, xc 6 _ rfl, ⟨_, xc 7 _ rfl, hB0.kept hk fun _ _ => id⟩, slSn (hC0.kept hk fun _ _ => id) (xc 8 _ rfl), slSn (hD0.kept hk fun _ _ => id) (xc 9 _ rfl), ⟨hd, han1, hbn1, xc 10 _ rfl, xc 11 _ rfl, xc 12 _ rfl, xc 13 _ rfl, ⟨_, xc 14 _ rfl, hA1.kept hk fun _ _ => id⟩, xc 15 _ rfl, xc 16 _ rfl, ⟨_, xc 17 _ rfl, hB1.kept hk fun _ _ => id⟩, slSn (hC1.kept hk fun _ _ => id) (xc 18 _ rfl), slSn (hD1.kept hk fun _ _ => id) (xc 19 _ rfl), trivial⟩⟩⟩⟩
theorem buildS2 (l0_0 l0_1 l0_2 l0_3 l0_4 l0_5 l0_6 l0_7 l0_8 l0_9 l1_0 l1_1 l1_2 l1_3 l1_4 l1_5 l1_6 l1_7 l1_8 l1_9 : Value) (w : World) : (Instr.buildSlice 33 2 #[(0, .agg #[l0_0, l0_1, l0_2, l0_3, l0_4, l0_5, l0_6, l0_7, l0_8, l0_9]), (1, .agg #[l1_0, l1_1, l1_2, l1_3, l1_4, l1_5, l1_6, l1_7, l1_8, l1_9])]).run Tryz.prog w = .ok (.slice (some ⟨w.heap.size, 0, none⟩) 2 2) (w.alloc (.cells #[l0_0, l0_1, l0_2, l0_3, l0_4, l0_5, l0_6, l0_7, l0_8, l0_9, l1_0, l1_1, l1_2, l1_3, l1_4, l1_5, l1_6, l1_7, l1_8, l1_9] 35)) := by kernel_rfl
theorem sx3 {y : World} {D : Nat → Prop} {kind0 n0 ao0 bo0 : Int} {an0 bn0 nA0 cA0 nB0 cB0 nC0 cC0 nD0 cD0 : Nat} {aA0 aB0 aC0 aD0 : Option Addr} {ak0 bk0 : Ef} {body0 els0 : Sf} {kind1 n1 ao1 bo1 : Int} {an1 bn1 nA1 cA1 nB1 cB1 nC1 cC1 nD1 cD1 : Nat} {aA1 aB1 aC1 aD1 : Option Addr} {ak1 bk1 : Ef} {body1 els1 : Sf} {kind2 n2 ao2 bo2 : Int} {an2 bn2 nA2 cA2 nB2 cB2 nC2 cC2 nD2 cD2 : Nat} {aA2 aB2 aC2 aD2 : Option Addr} {ak2 bk2 : Ef} {body2 els2 : Sf} (hd : D y.heap.size) (hA0 : SlE y D (.slice aA0 nA0 cA0) ak0) (hB0 : SlE y D (.slice aB0 nB0 cB0) bk0) (hC0 : SlS y D (.slice aC0 nC0 cC0) body0) (hD0 : SlS y D (.slice aD0 nD0 cD0) els0) (han0 : an0 < 18446744073709551616) (hbn0 : bn0 < 18446744073709551616) (hA1 : SlE y D (.slice aA1 nA1 cA1) ak1) (hB1 : SlE y D (.slice aB1 nB1 cB1) bk1) (hC1 : SlS y D (.slice aC1 nC1 cC1) body1) (hD1 : SlS y D (.slice aD1 nD1 cD1) els1) (han1 : an1 < 18446744073709551616) (hbn1 : bn1 < 18446744073709551616) (hA2 : SlE y D (.slice aA2 nA2 cA2) ak2) (hB2 : SlE y D (.slice aB2 nB2 cB2) bk2) (hC2 : SlS y D (.slice aC2 nC2 cC2) body2) (hD2 : SlS y D (.slice aD2 nD2 cD2) els2) (han2 : an2 < 18446744073709551616) (hbn2 : bn2 < 18446744073709551616) :
    SlS (y.alloc (.cells #[.int .i64 kind0, .int .i64 n0, .int .i64 ao0, .int .u64 an0, .slice aA0 nA0 cA0, .int .i64 bo0, .int .u64 bn0, .slice aB0 nB0 cB0, .slice aC0 nC0 cC0, .slice aD0 nD0 cD0, .int .i64 kind1, .int .i64 n1, .int .i64 ao1, .int .u64 an1, .slice aA1 nA1 cA1, .int .i64 bo1, .int .u64 bn1, .slice aB1 nB1 cB1, .slice aC1 nC1 cC1, .slice aD1 nD1 cD1, .int .i64 kind2, .int .i64 n2, .int .i64 ao2, .int .u64 an2, .slice aA2 nA2 cA2, .int .i64 bo2, .int .u64 bn2, .slice aB2 nB2 cB2, .slice aC2 nC2 cC2, .slice aD2 nD2 cD2] 35)) D (.slice (some ⟨y.heap.size, 0, none⟩) 3 3) (.cons kind0 n0 ao0 an0 ak0 bo0 bn0 bk0 body0 els0 (.cons kind1 n1 ao1 an1 ak1 bo1 bn1 bk1 body1 els1 (.cons kind2 n2 ao2 an2 ak2 bo2 bn2 bk2 body2 els2 .nil))) := by
  have hk := kept_alloc9 y (.cells #[.int .i64 kind0, .int .i64 n0, .int .i64 ao0, .int .u64 an0, .slice aA0 nA0 cA0, .int .i64 bo0, .int .u64 bn0, .slice aB0 nB0 cB0, .slice aC0 nC0 cC0, .slice aD0 nD0 cD0, .int .i64 kind1, .int .i64 n1, .int .i64 ao1, .int .u64 an1, .slice aA1 nA1 cA1, .int .i64 bo1, .int .u64 bn1, .slice aB1 nB1 cB1, .slice aC1 nC1 cC1, .slice aD1 nD1 cD1, .int .i64 kind2, .int .i64 n2, .int .i64 ao2, .int .u64 an2, .slice aA2 nA2 cA2, .int .i64 bo2, .int .u64 bn2, .slice aB2 nB2 cB2, .slice aC2 nC2 cC2, .slice aD2 nD2 cD2] 35)
  exact ⟨_, 3, rfl, by simp [Sf.len], .inr ⟨y.heap.size, 0, rfl, ⟨hd, han0, hbn0, xc 0 _ rfl, xc 1 _ rfl, xc 2 _ rfl, xc 3 _ rfl, ⟨_, xc 4 _ rfl, hA0.kept hk fun _ _ => id⟩, xc 5 _ rfl, xc 6 _ rfl, ⟨_, xc 7 _ rfl, hB0.kept hk fun _ _ => id⟩, slSn (hC0.kept hk fun _ _ => id) (xc 8 _ rfl), slSn (hD0.kept hk fun _ _ => id) (xc 9 _ rfl), ⟨hd, han1, hbn1, xc 10 _ rfl, xc 11 _ rfl, xc 12 _ rfl, xc 13 _ rfl, ⟨_, xc 14 _ rfl, hA1.kept hk fun _ _ => id⟩, xc 15 _ rfl, xc 16 _ rfl, ⟨_, xc 17 _ rfl, hB1.kept hk fun _ _ => id⟩, slSn (hC1.kept hk fun _ _ => id) (xc 18 _ rfl), slSn (hD1.kept hk fun _ _ => id) (xc 19 _ rfl), ⟨hd, han2, hbn2, xc 20 _ rfl, xc 21 _ rfl, xc 22 _ rfl, xc 23 _ rfl, ⟨_, xc 24 _ rfl, hA2.kept hk fun _ _ => id⟩, xc 25 _ rfl, xc 26 _ rfl, ⟨_, xc 27 _ rfl, hB2.kept hk fun _ _ => id⟩, slSn (hC2.kept hk fun _ _ => id) (xc 28 _ rfl), slSn (hD2.kept hk fun _ _ => id) (xc 29 _ rfl), trivial⟩⟩⟩⟩⟩
theorem buildS3 (l0_0 l0_1 l0_2 l0_3 l0_4 l0_5 l0_6 l0_7 l0_8 l0_9 l1_0 l1_1 l1_2 l1_3 l1_4 l1_5 l1_6 l1_7 l1_8 l1_9 l2_0 l2_1 l2_2 l2_3 l2_4 l2_5 l2_6 l2_7 l2_8 l2_9 : Value) (w : World) : (Instr.buildSlice 33 3 #[(0, .agg #[l0_0, l0_1, l0_2, l0_3, l0_4, l0_5, l0_6, l0_7, l0_8, l0_9]), (1, .agg #[l1_0, l1_1, l1_2, l1_3, l1_4, l1_5, l1_6, l1_7, l1_8, l1_9]), (2, .agg #[l2_0, l2_1, l2_2, l2_3, l2_4, l2_5, l2_6, l2_7, l2_8, l2_9])]).run Tryz.prog w = .ok (.slice (some ⟨w.heap.size, 0, none⟩) 3 3) (w.alloc (.cells #[l0_0, l0_1, l0_2, l0_3, l0_4, l0_5, l0_6, l0_7, l0_8, l0_9, l1_0, l1_1, l1_2, l1_3, l1_4, l1_5, l1_6, l1_7, l1_8, l1_9, l2_0, l2_1, l2_2, l2_3, l2_4, l2_5, l2_6, l2_7, l2_8, l2_9] 35)) := by kernel_rfl
theorem buildF1 (l0 l1 l2 : Value) (w : World) : (Instr.buildSlice 38 1 #[(0, .agg #[l0, l1, l2])]).run Tryz.prog w = .ok (.slice (some ⟨w.heap.size, 0, none⟩) 1 1) (w.alloc (.cells #[l0, l1, l2] 37)) := by kernel_rfl
theorem fx1 {y : World} {p l : Int} {a : Option Addr} {n c : Nat} {x : Sf} (h : SlS y (fun _ => True) (.slice a n c) x) : SlP (y.alloc (.cells #[.int .i64 p, .int .i64 l, .slice a n c] 37)) (fun _ => True) (.slice (some ⟨y.heap.size, 0, none⟩) 1 1) [⟨p, l, x⟩] := by
  have hk := kept_alloc9 y (.cells #[.int .i64 p, .int .i64 l, .slice a n c] 37)
  refine ⟨_, 1, rfl, by simp, .inr ⟨y.heap.size, 0, rfl, fun i fn hi => ?_⟩⟩
  match i, hi with
  | 0, hi => cases hi; exact ⟨trivial, xc 0 _ rfl, xc 1 _ rfl, _, xc 2 _ rfl, h.kept hk fun _ _ => id⟩
  | i + 1, hi => simp at hi
/-- Blocks that are read are there. -/
theorem EfAt.lt {w : World} : ∀ (x : Ef) (b o : Nat), EfAt w (fun _ => True) x b o → EfAt w (fun k => k < w.heap.size) x b o
  | .nil, _, _, _ => trivial
  | .cons op n kids rest, b, o, h => by
    obtain ⟨h1, h2, h3, h4, ⟨a, c, h5, hl, h6⟩, h7⟩ := h
    refine ⟨inHeap h3, h2, h3, h4, ⟨a, c, h5, hl, ?_⟩, EfAt.lt rest b (o + 3) h7⟩
    rcases h6 with h6 | ⟨b', o', e, h6⟩
    · exact .inl h6
    · exact .inr ⟨b', o', e, EfAt.lt kids b' o' h6⟩
theorem SlE.lt {w : World} {V : Value} {x : Ef} (h : SlE w (fun _ => True) V x) : SlE w (fun k => k < w.heap.size) V x := by
  obtain ⟨a, c, rfl, hl, h⟩ := h
  refine ⟨a, c, rfl, hl, ?_⟩
  rcases h with h | ⟨b, o, e, h⟩
  · exact .inl h
  · exact .inr ⟨b, o, e, EfAt.lt x b o h⟩
theorem SfAt.lt {w : World} : ∀ (x : Sf) (b o : Nat), SfAt w (fun _ => True) x b o → SfAt w (fun k => k < w.heap.size) x b o
  | .nil, _, _, _ => trivial
  | .cons kind n ao an ak bo bn bk body els rest, b, o, h => by
    obtain ⟨h1, h2, h3, h4, h5, h6, h7, ⟨V, h8, h9⟩, h10, h11, ⟨U, h12, h13⟩, ⟨a, c, h14, hl, h15⟩, ⟨a', c', h16, hl', h17⟩, h18⟩ := h
    refine ⟨inHeap h4, h2, h3, h4, h5, h6, h7, ⟨V, h8, h9.lt⟩, h10, h11, ⟨U, h12, h13.lt⟩, ⟨a, c, h14, hl, ?_⟩, ⟨a', c', h16, hl', ?_⟩, SfAt.lt rest b (o + 10) h18⟩
    · rcases h15 with h | ⟨b', o', e, h⟩
      · exact .inl h
      · exact .inr ⟨b', o', e, SfAt.lt body b' o' h⟩
    · rcases h17 with h | ⟨b', o', e, h⟩
      · exact .inl h
      · exact .inr ⟨b', o', e, SfAt.lt els b' o' h⟩
theorem SlP.lt {w : World} {V : Value} {p : List Fn} (h : SlP w (fun _ => True) V p) : SlP w (fun k => k < w.heap.size) V p := by
  obtain ⟨a, c, rfl, hl, h⟩ := h
  refine ⟨a, c, rfl, hl, ?_⟩
  rcases h with h | ⟨b, o, e, h⟩
  · exact .inl h
  · refine .inr ⟨b, o, e, fun i fn hi => ?_⟩
    obtain ⟨h1, h2, h3, U, h4, a', c', e', hl', h5⟩ := h i fn hi
    refine ⟨inHeap h2, h2, h3, U, h4, a', c', e', hl', ?_⟩
    rcases h5 with h | ⟨b', o', e, h⟩
    · exact .inl h
    · exact .inr ⟨b', o', e, SfAt.lt _ b' o' h⟩
/-- The answer of word.Apply. -/
def ap (k a b c : Nat) : Nat := (W1.apx k a b c).toNat
end Ir
end Go.Proofs.YtcgpdijpppcbiaaGreatDoor
namespace Go.Proofs.YtcgpdijpppcbiaaGreatDoor
open Go.RowKit
set_option linter.unusedVariables false
namespace Ir
open Kc
theorem ap_ok (k a b c : Nat) (h1 : 1 ≤ k) (h25 : k ≤ 25) (ha : a < 18446744073709551616) (hb : b < 18446744073709551616) (hc : c < 18446744073709551616) : W1.App k a b c (ap k a b c) := (W1.apx_ok k a b c h1 h25 ha hb hc).1
def x1 (op : Int) (n : Nat) : Ef := .cons op n .nil .nil
/-- The first of the fixed programs, and the second. -/
def body1 : Sf := .cons 1 0 1 0 (.cons 27 0 .nil (.cons 27 1 .nil .nil)) 0 0 .nil .nil .nil (.cons 1 1 2 0 (.cons 27 1 .nil (.cons 26 1 .nil .nil)) 0 0 .nil .nil .nil .nil)
def stm1 : Sf := .cons 1 1 26 5 .nil 0 0 .nil .nil .nil (.cons 4 0 27 1 .nil 0 0 .nil body1 .nil (.cons 5 0 27 0 .nil 0 0 .nil .nil .nil .nil))
def p1 : List Fn := [⟨0, 2, stm1⟩]
def p2 : List Fn := [⟨0, 0, .cons 5 0 28 0 (.cons 26 2048 .nil .nil) 0 0 .nil .nil .nil .nil⟩]
/-- A program that never ends. -/
def p3 : List Fn := [⟨0, 0, .cons 4 0 26 1 .nil 0 0 .nil .nil .nil .nil⟩]
def s0 (fuel : Nat) : Rs := ⟨fun _ => 0, fuel, 0, false, 0⟩
theorem right1 : right p1 = true := by rfl
theorem right2 : right p2 = true := by rfl
set_option maxRecDepth 100000 in
set_option maxHeartbeats 4000000 in
theorem run1 : ∃ s', stepCall p1 (sem p1 ap 20 6) 0 0 (fun _ => 0) (s0 999) = some (15, true, s') ∧ s'.dry = false := by
  have h : (stepCall p1 (sem p1 ap 20 6) 0 0 (fun _ => 0) (s0 999)).map (fun r => (r.1, r.2.1, r.2.2.dry)) = some (15, true, false) := by rfl
  cases hc : stepCall p1 (sem p1 ap 20 6) 0 0 (fun _ => 0) (s0 999) with
  | none => rw [hc] at h; cases h
  | some r =>
    obtain ⟨v, ok, s'⟩ := r
    rw [hc] at h
    simp at h
    obtain ⟨rfl, rfl, h⟩ := h
    exact ⟨s', rfl, h⟩
set_option maxRecDepth 100000 in
theorem run2 : ∃ s', stepCall p2 (sem p2 ap 3 6) 0 0 (fun _ => 0) (s0 9) = some (0, false, s') ∧ s'.dry = false ∧ s'.exit = wrong ∧ s'.used = 3 := by
  have h : (stepCall p2 (sem p2 ap 3 6) 0 0 (fun _ => 0) (s0 9)).map (fun r => (r.1, r.2.1, r.2.2.dry, r.2.2.exit, r.2.2.used)) = some (0, false, false, wrong, 3) := by rfl
  cases hc : stepCall p2 (sem p2 ap 3 6) 0 0 (fun _ => 0) (s0 9) with
  | none => rw [hc] at h; cases h
  | some r =>
    obtain ⟨v, ok, s'⟩ := r
    rw [hc] at h
    simp at h
    obtain ⟨rfl, rfl, h⟩ := h
    exact ⟨s', rfl, h.1, h.2.1, h.2.2⟩
theorem never (d : Nat) (L : Nat → Nat) (v : Nat) : ∀ (g G : Nat) (s : Rs), s.fuel - s.used < g → ∃ s', wh (sem p3 ap G (d + 1)) 26 1 .nil .nil g L v s = some (2, L, v, s') ∧ s'.dry = true
  | 0, _, _, h => by omega
  | g + 1, G, s, h => by
    unfold wh
    by_cases hu : s.used < s.fuel
    · rw [if_pos hu]
      have hval : (sem p3 ap G (d + 1)).val 26 1 .nil L s.up = if s.up.used < s.up.fuel then some (1, true, s.up.up) else some (0, false, s.up.dried) := by
        show stepVal p3 ap (sem p3 ap G d) 26 1 .nil L s.up = _
        unfold stepVal
        rfl
      rw [hval]
      by_cases hu2 : s.up.used < s.up.fuel
      · rw [if_pos hu2]
        dsimp only
        rw [if_neg (by decide)]
        have hl : (sem p3 ap G (d + 1)).lst .nil L v s.up.up = some (0, L, v, s.up.up) := rfl
        rw [hl]
        dsimp only
        rw [if_pos rfl]
        exact never d L v g G s.up.up (by show s.fuel - (s.used + 1 + 1) < g; have : s.used + 1 < s.fuel := hu2; omega)
      · rw [if_neg hu2]
        exact ⟨s.up.dried, rfl, rfl⟩
    · rw [if_neg hu]
      exact ⟨s.dried, rfl, rfl⟩
end Ir
end Go.Proofs.YtcgpdijpppcbiaaGreatDoor
