/-
  Walks of laws of layer 1. Own work.
-/
import Derived.Test.YtebfecnpkifgeaaWordF
namespace Go.Proofs.Ytebfecnpkifgeaa
open Go.RowKit
set_option linter.unusedVariables false
set_option maxRecDepth 100000 in
set_option maxHeartbeats 4000000 in
theorem wordGroups_in (a b c : Int) (ha : U.Ok a) (hb : U.Ok b) (hc : U.Ok c) (w : World) :
    Calls Try.prog 3 #[.int .u64 a, .int .u64 b, .int .u64 c] w fun e w' => e = .returned (.bool true) ∧ Below w.heap.size w w' := by
  have t0 : ((U.add a b) == (U.add b a)) = true := by rw [beq_iff_eq]; unfold U.add; omega
  have t1 : ((U.add (U.add a b) c) == (U.add a (U.add b c))) = true := by rw [beq_iff_eq]; unfold U.add; omega
  have t2 : ((U.sub (U.add a b) b) == a) = true := by rw [beq_iff_eq]; obtain ⟨p0, p1⟩ := ha; obtain ⟨q0, q1⟩ := hb; unfold U.sub U.add; omega
  have t3 : ((U.sub 0 (U.sub 0 a)) == a) = true := by rw [beq_iff_eq]; obtain ⟨p0, p1⟩ := ha; obtain ⟨q0, q1⟩ := hb; unfold U.sub; omega
  have t4 : ((U.mul a b) == (U.mul b a)) = true := by rw [beq_iff_eq]; unfold U.mul; rw [Int.mul_comm]
  have t5 : ((U.mul (U.mul a b) c) == (U.mul a (U.mul b c))) = true := by rw [beq_iff_eq]; unfold U.mul; rw [U.mulL, U.mulR, Int.mul_assoc]
  have t6 : ((U.mul a (U.add b c)) == (U.add (U.mul a b) (U.mul a c))) = true := by rw [beq_iff_eq]; unfold U.mul U.add; rw [U.mulR, Int.mul_add, Int.add_emod]
  have t7 : ((U.mul a 1) == a) = true := by rw [beq_iff_eq]; obtain ⟨p0, p1⟩ := ha; obtain ⟨q0, q1⟩ := hb; unfold U.mul; omega
  go_enter Try.func3, Try.ntmps3
  go_wp2_with fail
  refine (fixed_true _).mono ?_
  rintro e w' ⟨rfl, rfl⟩
  go_wp2_with fail
  refine (at_add a b _ ha hb).mono ?_
  rintro e w' ⟨rfl, rfl⟩
  go_wp2_with fail
  refine (at_add b a _ hb ha).mono ?_
  rintro e w' ⟨rfl, rfl⟩
  go_wp2_with fail
  refine (at_add a b _ ha hb).mono ?_
  rintro e w' ⟨rfl, rfl⟩
  go_wp2_with fail
  refine (at_add (U.add a b) c _ (U.add_ok _ _) hc).mono ?_
  rintro e w' ⟨rfl, rfl⟩
  go_wp2_with fail
  refine (at_add b c _ hb hc).mono ?_
  rintro e w' ⟨rfl, rfl⟩
  go_wp2_with fail
  refine (at_add a (U.add b c) _ ha (U.add_ok _ _)).mono ?_
  rintro e w' ⟨rfl, rfl⟩
  go_wp2_with fail
  refine (at_add a b _ ha hb).mono ?_
  rintro e w' ⟨rfl, rfl⟩
  go_wp2_with fail
  refine (at_sub (U.add a b) b _ (U.add_ok _ _) hb).mono ?_
  rintro e w' ⟨rfl, rfl⟩
  go_wp2_with fail
  refine (at_sub 0 a _ (by unfold U.Ok; decide) ha).mono ?_
  rintro e w' ⟨rfl, rfl⟩
  go_wp2_with fail
  refine (at_sub 0 (U.sub 0 a) _ (by unfold U.Ok; decide) (U.sub_ok _ _)).mono ?_
  rintro e w' ⟨rfl, rfl⟩
  go_wp2_with fail
  refine (at_mul a b _ ha hb).mono ?_
  rintro e w' ⟨rfl, rfl⟩
  go_wp2_with fail
  refine (at_mul b a _ hb ha).mono ?_
  rintro e w' ⟨rfl, rfl⟩
  go_wp2_with fail
  refine (at_mul a b _ ha hb).mono ?_
  rintro e w' ⟨rfl, rfl⟩
  go_wp2_with fail
  refine (at_mul (U.mul a b) c _ (U.mul_ok _ _) hc).mono ?_
  rintro e w' ⟨rfl, rfl⟩
  go_wp2_with fail
  refine (at_mul b c _ hb hc).mono ?_
  rintro e w' ⟨rfl, rfl⟩
  go_wp2_with fail
  refine (at_mul a (U.mul b c) _ ha (U.mul_ok _ _)).mono ?_
  rintro e w' ⟨rfl, rfl⟩
  go_wp2_with fail
  refine (at_add b c _ hb hc).mono ?_
  rintro e w' ⟨rfl, rfl⟩
  go_wp2_with fail
  refine (at_mul a (U.add b c) _ ha (U.add_ok _ _)).mono ?_
  rintro e w' ⟨rfl, rfl⟩
  go_wp2_with fail
  refine (at_mul a b _ ha hb).mono ?_
  rintro e w' ⟨rfl, rfl⟩
  go_wp2_with fail
  refine (at_mul a c _ ha hc).mono ?_
  rintro e w' ⟨rfl, rfl⟩
  go_wp2_with fail
  refine (at_add (U.mul a b) (U.mul a c) _ (U.mul_ok _ _) (U.mul_ok _ _)).mono ?_
  rintro e w' ⟨rfl, rfl⟩
  go_wp2_with fail
  refine (at_mul a 1 _ ha (by unfold U.Ok; decide)).mono ?_
  rintro e w' ⟨rfl, rfl⟩
  go_wp2_with fail
  go_ret
  exact ⟨rfl, Below.refl _ _⟩
theorem wordGroups_walk (a b c : Int) (wa : (Lit.int .u64 a).wf = true) (wb : (Lit.int .u64 b).wf = true) (wc : (Lit.int .u64 c).wf = true) (w : World) :
    Calls Try.prog 3 #[.int .u64 a, .int .u64 b, .int .u64 c] w fun e w' => e = .returned (.bool true) ∧ Below w.heap.size w w' :=
  wordGroups_in a b c (bounds_u64 wa) (bounds_u64 wb) (bounds_u64 wc) w
end Go.Proofs.Ytebfecnpkifgeaa
