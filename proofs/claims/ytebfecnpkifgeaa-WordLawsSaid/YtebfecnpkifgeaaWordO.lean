/-
  Walks of laws of layer 1. Own work.
-/
import Derived.Test.YtebfecnpkifgeaaWordF
namespace Go.Proofs.Ytebfecnpkifgeaa
open Go.RowKit
set_option linter.unusedVariables false
namespace U
def top (a : Int) : Int := if a < 9223372036854775808 then a + 9223372036854775808 else a - 9223372036854775808
theorem b2_le (p : Bool) : b2 p ≤ 1 := by cases p <;> simp [b2]
theorem top_ok {a : Int} (h : Ok a) : Ok (top a) := by unfold Ok top at *; split <;> omega
theorem three (a b : Int) : lt a b + gt a b + eq a b = 1 := by
  unfold lt gt eq b2
  rcases Int.lt_trichotomy a b with h | h | h
  · have h1 : ¬ b < a := by omega
    have h2 : ¬ a = b := by omega
    simp [h, h1, h2]
  · subst h; simp
  · have h1 : ¬ a < b := by omega
    have h2 : ¬ a = b := by omega
    simp [h, h1, h2]
theorem slt_top (a b : Int) (ha : Ok a) (hb : Ok b) : slt a b = lt (top a) (top b) := by
  unfold slt lt
  congr 1
  rw [decide_eq_decide]
  unfold Ok at ha hb
  unfold sg top
  split <;> split <;> omega
theorem eq_xor (a b : Int) (ha : Ok a) (hb : Ok b) : eq a b = isz (xor a b) := by
  unfold eq isz
  congr 1
  unfold xor
  by_cases h : a = b
  · subst h; simp
  · have h1 : a.toNat ^^^ b.toNat ≠ 0 := by
      intro e
      have e2 : (a.toNat ^^^ b.toNat) ^^^ b.toNat = 0 ^^^ b.toNat := by rw [e]
      rw [Nat.xor_assoc, Nat.xor_self, Nat.xor_zero, Nat.zero_xor] at e2
      unfold Ok at ha hb
      omega
    have h2 : (a == b) = false := by simpa using h
    rw [h2]
    symm
    rw [beq_eq_false_iff_ne]
    omega
theorem xor_top (a : Int) (ha : Ok a) : Go.bits .xor .u64 a 9223372036854775808 = top a := by
  unfold Ok at ha
  rw [u64_xor a 9223372036854775808 ha.1 (by omega) (by omega) (by omega)]
  have h := Bt.xor_top a.toNat (by omega)
  simp at h ⊢
  rw [h]
  unfold top
  split <;> omega
end U
set_option maxRecDepth 100000 in
set_option maxHeartbeats 4000000 in
theorem wordOrders_in (a b : Int) (ha : U.Ok a) (hb : U.Ok b) (w : World) :
    Calls Try.prog 6 #[.int .u64 a, .int .u64 b] w fun e w' => e = .returned (.bool true) ∧ Below w.heap.size w w' := by
  have l0 := U.b2_ok (decide (a < b))
  have l1 := U.b2_le (decide (a < b))
  have g0 := U.b2_ok (decide (b < a))
  have g1 := U.b2_le (decide (b < a))
  have e0 := U.b2_ok (a == b)
  have e1 := U.b2_le (a == b)
  change U.Ok (U.lt a b) at l0
  change U.lt a b ≤ 1 at l1
  change U.Ok (U.gt a b) at g0
  change U.gt a b ≤ 1 at g1
  change U.Ok (U.eq a b) at e0
  change U.eq a b ≤ 1 at e1
  have l2 := l0.1
  have g2 := g0.1
  have e2 := e0.1
  have t0 : (U.lt a b + U.gt a b + U.eq a b == 1) = true := by rw [beq_iff_eq]; exact U.three a b
  have t1 : (U.lt a b == U.gt b a) = true := by rw [beq_iff_eq]; rfl
  have t2 : (U.slt a b == U.lt (U.top a) (U.top b)) = true := by rw [beq_iff_eq]; exact U.slt_top a b ha hb
  have t3 : (U.sgt a b == U.slt b a) = true := by rw [beq_iff_eq]; rfl
  have t4 : (U.eq a b == U.isz (U.xor a b)) = true := by rw [beq_iff_eq]; exact U.eq_xor a b ha hb
  have x1 := U.xor_top a ha
  have x2 := U.xor_top b hb
  have a0 := ha.1
  have a1 := ha.2
  have b0 := hb.1
  have b1 := hb.2
  go_enter Try.func6, Try.ntmps6
  go_wp2_with fail
  refine (fixed_true _).mono ?_
  rintro e w' ⟨rfl, rfl⟩
  go_wp2_with fail
  refine (at_lt a b _ ha hb).mono ?_
  rintro e w' ⟨rfl, rfl⟩
  go_wp2_with fail
  refine (at_gt a b _ ha hb).mono ?_
  rintro e w' ⟨rfl, rfl⟩
  go_wp2_with fail
  refine (at_eq a b _ ha hb).mono ?_
  rintro e w' ⟨rfl, rfl⟩
  go_wp2_with fail
  refine (at_lt a b _ ha hb).mono ?_
  rintro e w' ⟨rfl, rfl⟩
  go_wp2_with fail
  refine (at_gt b a _ hb ha).mono ?_
  rintro e w' ⟨rfl, rfl⟩
  go_wp2_with fail
  refine (at_slt a b _ ha hb).mono ?_
  rintro e w' ⟨rfl, rfl⟩
  go_wp2_with fail
  refine (at_lt (U.top a) (U.top b) _ (U.top_ok ha) (U.top_ok hb)).mono ?_
  rintro e w' ⟨rfl, rfl⟩
  go_wp2_with fail
  refine (at_sgt a b _ ha hb).mono ?_
  rintro e w' ⟨rfl, rfl⟩
  go_wp2_with fail
  refine (at_slt b a _ hb ha).mono ?_
  rintro e w' ⟨rfl, rfl⟩
  go_wp2_with fail
  refine (at_eq a b _ ha hb).mono ?_
  rintro e w' ⟨rfl, rfl⟩
  go_wp2_with fail
  refine (at_xor a b _ ha hb).mono ?_
  rintro e w' ⟨rfl, rfl⟩
  go_wp2_with fail
  refine (at_isz (U.xor a b) 0 _ (U.xor_ok ha hb) (by unfold U.Ok; decide)).mono ?_
  rintro e w' ⟨rfl, rfl⟩
  go_wp2_with fail
  go_ret
  exact ⟨rfl, Below.refl _ _⟩
theorem wordOrders_walk (a b : Int) (wa : (Lit.int .u64 a).wf = true) (wb : (Lit.int .u64 b).wf = true) (w : World) :
    Calls Try.prog 6 #[.int .u64 a, .int .u64 b] w fun e w' => e = .returned (.bool true) ∧ Below w.heap.size w w' :=
  wordOrders_in a b (bounds_u64 wa) (bounds_u64 wb) w
end Go.Proofs.Ytebfecnpkifgeaa
