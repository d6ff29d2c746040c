/-
  The walk of WordLaws. Own work.
-/
import Derived.Test.YtebfecnpkifgeaaWordF
import Derived.Test.YtebfecnpkifgeaaWordC
import Derived.Test.YtebfecnpkifgeaaWordM
import Derived.Test.YtebfecnpkifgeaaWordO
namespace Go.Proofs.Ytebfecnpkifgeaa
open Go.RowKit
set_option linter.unusedVariables false
theorem swapW {P : Program} {f : FuncId} {args : Array Value} {w : World} {v : Value} (h : Calls P f args w fun e w' => e = .returned v ∧ w = w') : Calls P f args w fun e w' => e = .returned v ∧ w' = w :=
  h.mono fun _ _ ⟨he, hw⟩ => ⟨he, hw.symm⟩
theorem bldr {B : Nat} {a w : World} {n : Nat} (h : Below B a w) : Below B a (w.drewN n) := below_drewN h n
set_option maxRecDepth 100000 in
set_option maxHeartbeats 8000000 in
theorem laws_in (a b n : Int) (ha : U.Ok a) (hb : U.Ok b) (hn : U.Ok n) (hz : ¬ b = 0) (w : World) :
    Calls Try.prog 8 #[.int .u64 a, .int .u64 b, .int .u64 n] w fun e w' => e = .returned (.bool true) ∧ Below w.heap.size w w' := by
  have u0 : (U.add (U.mul (U.div a b) b) (U.mod a b) == a) = true := by rw [beq_iff_eq]; exact U.div_back a b ha hz
  have u1 : (U.add (U.mul (U.sdiv a b) b) (U.smod a b) == a) = true := by rw [beq_iff_eq]; exact U.sdiv_back a b ha hz
  have hzb : (b == 0) = false := by simpa using hz
  have hzn : (b != 0) = true := by simpa using hz
  have v0 : (U.add (U.mul (U.div a b) b) (U.mod a b) != a) = false := by simpa using u0
  have v1 : (U.add (U.mul (U.sdiv a b) b) (U.smod a b) != a) = false := by simpa using u1
  obtain ⟨m, hm⟩ : ∃ m, n % 70 = m := ⟨_, rfl⟩
  have m0 : 0 ≤ m := by omega
  have m1 : m < 70 := by omega
  have hmo : U.Ok m := by unfold U.Ok; omega
  have hmo1 : U.Ok (m + 1) := by unfold U.Ok; omega
  have n0 := hn.1
  have n1 := hn.2
  have t0 : (U.sub (U.add a b) b == a) = true := by rw [beq_iff_eq]; obtain ⟨p0, p1⟩ := ha; unfold U.sub U.add; omega
  have t1 : (U.not (U.not a) == a) = true := by rw [beq_iff_eq]; unfold U.not; omega
  have t2 : (U.xor (U.xor a b) b == a) = true := by rw [beq_iff_eq]; exact U.xor_back a b ha
  have t3 : (U.shl 1 (U.shl m a) == U.shl (m + 1) a) = true := by rw [beq_iff_eq]; exact U.shl_two a m m0
  have t4 : (U.sar 1 (U.sar m a) == U.sar (m + 1) a) = true := by rw [beq_iff_eq]; exact U.sar_two a m ha m0
  have t5 : (U.sext m (U.sext m a) == U.sext m a) = true := by rw [beq_iff_eq]; exact U.sext_two a m ha m0
  have t6 : (U.lt a b + U.gt a b + U.eq a b == 1) = true := by rw [beq_iff_eq]; exact U.three a b
  have t7 : (U.slt a b + U.sgt a b + U.eq a b == 1) = true := by rw [beq_iff_eq]; exact U.sthree a b ha hb
  have l_lt : 0 ≤ U.lt a b := (U.b2_ok (decide (a < b))).1
  have r_lt : U.lt a b ≤ 1 := U.b2_le (decide (a < b))
  have l_gt : 0 ≤ U.gt a b := (U.b2_ok (decide (b < a))).1
  have r_gt : U.gt a b ≤ 1 := U.b2_le (decide (b < a))
  have l_eq : 0 ≤ U.eq a b := (U.b2_ok ((a == b))).1
  have r_eq : U.eq a b ≤ 1 := U.b2_le ((a == b))
  have l_slt : 0 ≤ U.slt a b := (U.b2_ok (decide (U.sg a < U.sg b))).1
  have r_slt : U.slt a b ≤ 1 := U.b2_le (decide (U.sg a < U.sg b))
  have l_sgt : 0 ≤ U.sgt a b := (U.b2_ok (decide (U.sg b < U.sg a))).1
  have r_sgt : U.sgt a b ≤ 1 := U.b2_le (decide (U.sg b < U.sg a))
  go_enter Try.func8, Try.ntmps8
  go_wp2_with fail
  refine (fixed_true _).mono ?_
  rintro e w' ⟨rfl, rfl⟩
  go_wp2_with fail
  refine wp_loop_rounds 3 ?_
  rw [rounds_succ]
  go_wp2_with fail
  go_quiet ((first
      | (go_at_call 12; with_reducible exact Calls.quiet_of_same (swapW (do_div a b _ ha hb)))
      | (go_at_call 12; with_reducible exact Calls.quiet_of_same (swapW (do_mod a b _ ha hb)))))
  go_wp2_with fail
  refine (do_mul (U.div a b) b _ (U.div_ok ha hb) hb).mono ?_
  rintro e w' ⟨rfl, rfl⟩
  go_wp2_with fail
  refine (do_add (U.mul (U.div a b) b) (U.mod a b) _ (U.mul_ok _ _) (U.mod_ok ha hb)).mono ?_
  rintro e w' ⟨rfl, rfl⟩
  go_wp2_with fail
  rw [rounds_succ]
  go_wp2_with fail
  go_quiet ((first
      | (go_at_call 12; with_reducible exact Calls.quiet_of_same (swapW (do_sdiv a b _ ha hb)))
      | (go_at_call 12; with_reducible exact Calls.quiet_of_same (swapW (do_smod a b _ ha hb)))))
  go_wp2_with fail
  refine (do_mul (U.sdiv a b) b _ (U.sdiv_ok ha hb) hb).mono ?_
  rintro e w' ⟨rfl, rfl⟩
  go_wp2_with fail
  refine (do_add (U.mul (U.sdiv a b) b) (U.smod a b) _ (U.mul_ok _ _) (U.smod_ok ha hb)).mono ?_
  rintro e w' ⟨rfl, rfl⟩
  go_wp2_with fail
  rw [rounds_succ]
  go_wp2_with fail
  go_wp2_with fail
  refine (do_add a b _ ha hb).mono ?_
  rintro e w' ⟨rfl, rfl⟩
  go_wp2_with fail
  refine (do_sub (U.add a b) b _ (U.add_ok _ _) hb).mono ?_
  rintro e w' ⟨rfl, rfl⟩
  go_wp2_with fail
  refine (do_not a 0 _ ha (by unfold U.Ok; decide)).mono ?_
  rintro e w' ⟨rfl, rfl⟩
  go_wp2_with fail
  refine (do_not (U.not a) 0 _ (U.not_ok ha) (by unfold U.Ok; decide)).mono ?_
  rintro e w' ⟨rfl, rfl⟩
  go_wp2_with fail
  refine (do_xor a b _ ha hb).mono ?_
  rintro e w' ⟨rfl, rfl⟩
  go_wp2_with fail
  refine (do_xor (U.xor a b) b _ (U.xor_ok ha hb) hb).mono ?_
  rintro e w' ⟨rfl, rfl⟩
  go_wp2_with fail
  refine (do_shl m a _ hmo ha).mono ?_
  rintro e w' ⟨rfl, rfl⟩
  go_wp2_with fail
  refine (do_shl 1 (U.shl m a) _ (by unfold U.Ok; decide) (U.shl_ok hmo ha)).mono ?_
  rintro e w' ⟨rfl, rfl⟩
  go_wp2_with fail
  refine (do_shl (m + 1) a _ hmo1 ha).mono ?_
  rintro e w' ⟨rfl, rfl⟩
  go_wp2_with fail
  refine (do_sar m a _ hmo ha).mono ?_
  rintro e w' ⟨rfl, rfl⟩
  go_wp2_with fail
  refine (do_sar 1 (U.sar m a) _ (by unfold U.Ok; decide) (U.sar_ok hmo ha)).mono ?_
  rintro e w' ⟨rfl, rfl⟩
  go_wp2_with fail
  refine (do_sar (m + 1) a _ hmo1 ha).mono ?_
  rintro e w' ⟨rfl, rfl⟩
  go_wp2_with fail
  refine (do_sext m a _ hmo ha).mono ?_
  rintro e w' ⟨rfl, rfl⟩
  go_wp2_with fail
  refine (do_sext m (U.sext m a) _ hmo (U.sext_ok hmo ha)).mono ?_
  rintro e w' ⟨rfl, rfl⟩
  go_wp2_with fail
  refine (do_sext m a _ hmo ha).mono ?_
  rintro e w' ⟨rfl, rfl⟩
  go_wp2_with fail
  refine (do_lt a b _ ha hb).mono ?_
  rintro e w' ⟨rfl, rfl⟩
  go_wp2_with fail
  refine (do_gt a b _ ha hb).mono ?_
  rintro e w' ⟨rfl, rfl⟩
  go_wp2_with fail
  refine (do_eq a b _ ha hb).mono ?_
  rintro e w' ⟨rfl, rfl⟩
  go_wp2_with fail
  refine (do_slt a b _ ha hb).mono ?_
  rintro e w' ⟨rfl, rfl⟩
  go_wp2_with fail
  refine (do_sgt a b _ ha hb).mono ?_
  rintro e w' ⟨rfl, rfl⟩
  go_wp2_with fail
  refine (do_eq a b _ ha hb).mono ?_
  rintro e w' ⟨rfl, rfl⟩
  go_wp2_with fail
  go_ret
  exact ⟨rfl, by repeat (first | exact Below.refl _ _ | exact bldr (Below.refl _ _) | refine bldr ?_ | refine Below.alloc ?_ (by simp; try omega) _)⟩
set_option maxRecDepth 100000 in
set_option maxHeartbeats 8000000 in
theorem laws_zero (a b n : Int) (ha : U.Ok a) (hb : U.Ok b) (hn : U.Ok n) (hz : b = 0) (w : World) :
    Calls Try.prog 8 #[.int .u64 a, .int .u64 b, .int .u64 n] w fun e w' => e = .returned (.bool true) ∧ Below w.heap.size w w' := by
  subst hz
  obtain ⟨m, hm⟩ : ∃ m, n % 70 = m := ⟨_, rfl⟩
  have m0 : 0 ≤ m := by omega
  have m1 : m < 70 := by omega
  have hmo : U.Ok m := by unfold U.Ok; omega
  have hmo1 : U.Ok (m + 1) := by unfold U.Ok; omega
  have n0 := hn.1
  have n1 := hn.2
  have t0 : (U.sub (U.add a 0) 0 == a) = true := by rw [beq_iff_eq]; obtain ⟨p0, p1⟩ := ha; unfold U.sub U.add; omega
  have t1 : (U.not (U.not a) == a) = true := by rw [beq_iff_eq]; unfold U.not; omega
  have t2 : (U.xor (U.xor a 0) 0 == a) = true := by rw [beq_iff_eq]; exact U.xor_back a 0 ha
  have t3 : (U.shl 1 (U.shl m a) == U.shl (m + 1) a) = true := by rw [beq_iff_eq]; exact U.shl_two a m m0
  have t4 : (U.sar 1 (U.sar m a) == U.sar (m + 1) a) = true := by rw [beq_iff_eq]; exact U.sar_two a m ha m0
  have t5 : (U.sext m (U.sext m a) == U.sext m a) = true := by rw [beq_iff_eq]; exact U.sext_two a m ha m0
  have t6 : (U.lt a 0 + U.gt a 0 + U.eq a 0 == 1) = true := by rw [beq_iff_eq]; exact U.three a 0
  have t7 : (U.slt a 0 + U.sgt a 0 + U.eq a 0 == 1) = true := by rw [beq_iff_eq]; exact U.sthree a 0 ha hb
  have l_lt : 0 ≤ U.lt a 0 := (U.b2_ok (decide (a < 0))).1
  have r_lt : U.lt a 0 ≤ 1 := U.b2_le (decide (a < 0))
  have l_gt : 0 ≤ U.gt a 0 := (U.b2_ok (decide (0 < a))).1
  have r_gt : U.gt a 0 ≤ 1 := U.b2_le (decide (0 < a))
  have l_eq : 0 ≤ U.eq a 0 := (U.b2_ok ((a == 0))).1
  have r_eq : U.eq a 0 ≤ 1 := U.b2_le ((a == 0))
  have l_slt : 0 ≤ U.slt a 0 := (U.b2_ok (decide (U.sg a < U.sg 0))).1
  have r_slt : U.slt a 0 ≤ 1 := U.b2_le (decide (U.sg a < U.sg 0))
  have l_sgt : 0 ≤ U.sgt a 0 := (U.b2_ok (decide (U.sg 0 < U.sg a))).1
  have r_sgt : U.sgt a 0 ≤ 1 := U.b2_le (decide (U.sg 0 < U.sg a))
  go_enter Try.func8, Try.ntmps8
  go_wp2_with fail
  refine (fixed_true _).mono ?_
  rintro e w' ⟨rfl, rfl⟩
  go_wp2_with fail
  refine wp_loop_rounds 3 ?_
  rw [rounds_succ]
  go_wp2_with fail
  go_quiet ((first
      | (go_at_call 12; with_reducible exact Calls.quiet_of_same (swapW (do_div a 0 _ ha hb)))
      | (go_at_call 12; with_reducible exact Calls.quiet_of_same (swapW (do_mod a 0 _ ha hb)))))
  simp only [(U.div_zero a).1, (U.div_zero a).2.1]
  go_wp2_with fail
  rw [rounds_succ]
  go_wp2_with fail
  go_quiet ((first
      | (go_at_call 12; with_reducible exact Calls.quiet_of_same (swapW (do_sdiv a 0 _ ha hb)))
      | (go_at_call 12; with_reducible exact Calls.quiet_of_same (swapW (do_smod a 0 _ ha hb)))))
  simp only [(U.div_zero a).2.2.1, (U.div_zero a).2.2.2]
  go_wp2_with fail
  rw [rounds_succ]
  go_wp2_with fail
  go_wp2_with fail
  refine (do_add a 0 _ ha hb).mono ?_
  rintro e w' ⟨rfl, rfl⟩
  go_wp2_with fail
  refine (do_sub (U.add a 0) 0 _ (U.add_ok _ _) hb).mono ?_
  rintro e w' ⟨rfl, rfl⟩
  go_wp2_with fail
  refine (do_not a 0 _ ha (by unfold U.Ok; decide)).mono ?_
  rintro e w' ⟨rfl, rfl⟩
  go_wp2_with fail
  refine (do_not (U.not a) 0 _ (U.not_ok ha) (by unfold U.Ok; decide)).mono ?_
  rintro e w' ⟨rfl, rfl⟩
  go_wp2_with fail
  refine (do_xor a 0 _ ha hb).mono ?_
  rintro e w' ⟨rfl, rfl⟩
  go_wp2_with fail
  refine (do_xor (U.xor a 0) 0 _ (U.xor_ok ha hb) hb).mono ?_
  rintro e w' ⟨rfl, rfl⟩
  go_wp2_with fail
  refine (do_shl m a _ hmo ha).mono ?_
  rintro e w' ⟨rfl, rfl⟩
  go_wp2_with fail
  refine (do_shl 1 (U.shl m a) _ (by unfold U.Ok; decide) (U.shl_ok hmo ha)).mono ?_
  rintro e w' ⟨rfl, rfl⟩
  go_wp2_with fail
  refine (do_shl (m + 1) a _ hmo1 ha).mono ?_
  rintro e w' ⟨rfl, rfl⟩
  go_wp2_with fail
  refine (do_sar m a _ hmo ha).mono ?_
  rintro e w' ⟨rfl, rfl⟩
  go_wp2_with fail
  refine (do_sar 1 (U.sar m a) _ (by unfold U.Ok; decide) (U.sar_ok hmo ha)).mono ?_
  rintro e w' ⟨rfl, rfl⟩
  go_wp2_with fail
  refine (do_sar (m + 1) a _ hmo1 ha).mono ?_
  rintro e w' ⟨rfl, rfl⟩
  go_wp2_with fail
  refine (do_sext m a _ hmo ha).mono ?_
  rintro e w' ⟨rfl, rfl⟩
  go_wp2_with fail
  refine (do_sext m (U.sext m a) _ hmo (U.sext_ok hmo ha)).mono ?_
  rintro e w' ⟨rfl, rfl⟩
  go_wp2_with fail
  refine (do_sext m a _ hmo ha).mono ?_
  rintro e w' ⟨rfl, rfl⟩
  go_wp2_with fail
  refine (do_lt a 0 _ ha hb).mono ?_
  rintro e w' ⟨rfl, rfl⟩
  go_wp2_with fail
  refine (do_gt a 0 _ ha hb).mono ?_
  rintro e w' ⟨rfl, rfl⟩
  go_wp2_with fail
  refine (do_eq a 0 _ ha hb).mono ?_
  rintro e w' ⟨rfl, rfl⟩
  go_wp2_with fail
  refine (do_slt a 0 _ ha hb).mono ?_
  rintro e w' ⟨rfl, rfl⟩
  go_wp2_with fail
  refine (do_sgt a 0 _ ha hb).mono ?_
  rintro e w' ⟨rfl, rfl⟩
  go_wp2_with fail
  refine (do_eq a 0 _ ha hb).mono ?_
  rintro e w' ⟨rfl, rfl⟩
  go_wp2_with fail
  go_ret
  exact ⟨rfl, by repeat (first | exact Below.refl _ _ | exact bldr (Below.refl _ _) | refine bldr ?_ | refine Below.alloc ?_ (by simp; try omega) _)⟩
theorem wordLaws_walk (a b n : Int) (wa : (Lit.int .u64 a).wf = true) (wb : (Lit.int .u64 b).wf = true) (wn : (Lit.int .u64 n).wf = true) (w : World) :
    Calls Try.prog 8 #[.int .u64 a, .int .u64 b, .int .u64 n] w fun e w' => e = .returned (.bool true) ∧ Below w.heap.size w w' := by
  by_cases h : b = 0
  · exact laws_zero a b n (bounds_u64 wa) (bounds_u64 wb) (bounds_u64 wn) h w
  · exact laws_in a b n (bounds_u64 wa) (bounds_u64 wb) (bounds_u64 wn) h w
end Go.Proofs.Ytebfecnpkifgeaa
