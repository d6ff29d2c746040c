/-
  Walks of laws of layer 1. Own work.
-/
import Derived.Test.YtebfecnpkifgeaaWordF
namespace Go.Proofs.Ytebfecnpkifgeaa
open Go.RowKit
set_option linter.unusedVariables false
set_option maxHeartbeats 400000 in
theorem not_clos (x : Int) (w : World) (hx : U.Ok x) :
    Calls Try.prog 11 #[.int .u64 x] w fun e w' => e = .returned (.int .u64 (U.not x)) ∧ w = w' := by
  go_enter Try.func11, Try.ntmps11
  go_wp2_with fail
  refine (at_not x 0 _ hx (by unfold U.Ok; decide)).mono ?_
  rintro e w' ⟨rfl, rfl⟩
  go_wp2_with fail
  go_ret
  exact ⟨rfl, rfl⟩
set_option maxRecDepth 100000 in
set_option maxHeartbeats 4000000 in
theorem wordBits_in (a b : Int) (ha : U.Ok a) (hb : U.Ok b) (w : World) :
    Calls Try.prog 4 #[.int .u64 a, .int .u64 b] w fun e w' => e = .returned (.bool true) ∧ Below w.heap.size w w' := by
  have t0 : ((U.not (U.and a b)) == (U.or (U.not a) (U.not b))) = true := by rw [beq_iff_eq]; obtain ⟨p0, p1⟩ := ha; obtain ⟨q0, q1⟩ := hb; have d := Bt.de_morgan a.toNat b.toNat (by omega) (by omega); have n1 := Bt.or_add_and a.toNat b.toNat; have n2 := Bt.xor_add_and a.toNat b.toNat; have n3 := Nat.and_le_left (n := a.toNat) (m := b.toNat); unfold U.not U.or U.and; rw [show (18446744073709551615 - a).toNat = 18446744073709551615 - a.toNat by omega, show (18446744073709551615 - b).toNat = 18446744073709551615 - b.toNat by omega, ← d]; omega
  have t1 : ((U.add (U.and a b) (U.or a b)) == (U.add a b)) = true := by rw [beq_iff_eq]; obtain ⟨p0, p1⟩ := ha; obtain ⟨q0, q1⟩ := hb; have n1 := Bt.or_add_and a.toNat b.toNat; have n2 := Bt.xor_add_and a.toNat b.toNat; have n3 := Nat.and_le_left (n := a.toNat) (m := b.toNat); unfold U.add U.and U.or; omega
  have t2 : ((U.xor a b) == (U.sub (U.or a b) (U.and a b))) = true := by rw [beq_iff_eq]; obtain ⟨p0, p1⟩ := ha; obtain ⟨q0, q1⟩ := hb; have n1 := Bt.or_add_and a.toNat b.toNat; have n2 := Bt.xor_add_and a.toNat b.toNat; have n3 := Nat.and_le_left (n := a.toNat) (m := b.toNat); unfold U.sub U.xor U.and U.or; have n5 := (U.or_ok ⟨p0, p1⟩ ⟨q0, q1⟩).2; unfold U.or at n5; omega
  have t3 : ((U.not a) == (U.sub 18446744073709551615 a)) = true := by rw [beq_iff_eq]; obtain ⟨p0, p1⟩ := ha; obtain ⟨q0, q1⟩ := hb; unfold U.not U.sub; omega
  have t4 : ((U.not (U.not a)) == a) = true := by rw [beq_iff_eq]; unfold U.not; omega
  go_enter Try.func4, Try.ntmps4
  go_wp2_with fail
  refine (fixed_true _).mono ?_
  rintro e w' ⟨rfl, rfl⟩
  go_wp2_with fail
  refine (at_and a b _ ha hb).mono ?_
  rintro e w' ⟨rfl, rfl⟩
  go_wp2_with fail
  refine (not_clos (U.and a b)  _ (U.and_ok ha) ).mono ?_
  rintro e w' ⟨rfl, rfl⟩
  go_wp2_with fail
  refine (not_clos a  _ ha ).mono ?_
  rintro e w' ⟨rfl, rfl⟩
  go_wp2_with fail
  refine (not_clos b  _ hb ).mono ?_
  rintro e w' ⟨rfl, rfl⟩
  go_wp2_with fail
  refine (at_or (U.not a) (U.not b) _ (U.not_ok ha) (U.not_ok hb)).mono ?_
  rintro e w' ⟨rfl, rfl⟩
  go_wp2_with fail
  refine (at_and a b _ ha hb).mono ?_
  rintro e w' ⟨rfl, rfl⟩
  go_wp2_with fail
  refine (at_or a b _ ha hb).mono ?_
  rintro e w' ⟨rfl, rfl⟩
  go_wp2_with fail
  refine (at_add (U.and a b) (U.or a b) _ (U.and_ok ha) (U.or_ok ha hb)).mono ?_
  rintro e w' ⟨rfl, rfl⟩
  go_wp2_with fail
  refine (at_add a b _ ha hb).mono ?_
  rintro e w' ⟨rfl, rfl⟩
  go_wp2_with fail
  refine (at_xor a b _ ha hb).mono ?_
  rintro e w' ⟨rfl, rfl⟩
  go_wp2_with fail
  refine (at_or a b _ ha hb).mono ?_
  rintro e w' ⟨rfl, rfl⟩
  go_wp2_with fail
  refine (at_and a b _ ha hb).mono ?_
  rintro e w' ⟨rfl, rfl⟩
  go_wp2_with fail
  refine (at_sub (U.or a b) (U.and a b) _ (U.or_ok ha hb) (U.and_ok ha)).mono ?_
  rintro e w' ⟨rfl, rfl⟩
  go_wp2_with fail
  refine (not_clos a  _ ha ).mono ?_
  rintro e w' ⟨rfl, rfl⟩
  go_wp2_with fail
  refine (at_sub 18446744073709551615 a _ (by unfold U.Ok; decide) ha).mono ?_
  rintro e w' ⟨rfl, rfl⟩
  go_wp2_with fail
  refine (not_clos a  _ ha ).mono ?_
  rintro e w' ⟨rfl, rfl⟩
  go_wp2_with fail
  refine (not_clos (U.not a)  _ (U.not_ok ha) ).mono ?_
  rintro e w' ⟨rfl, rfl⟩
  go_wp2_with fail
  go_ret
  exact ⟨rfl, Below.refl _ _⟩
theorem wordBits_walk (a b : Int) (wa : (Lit.int .u64 a).wf = true) (wb : (Lit.int .u64 b).wf = true) (w : World) :
    Calls Try.prog 4 #[.int .u64 a, .int .u64 b] w fun e w' => e = .returned (.bool true) ∧ Below w.heap.size w w' :=
  wordBits_in a b (bounds_u64 wa) (bounds_u64 wb) w
end Go.Proofs.Ytebfecnpkifgeaa
