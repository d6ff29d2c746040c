/-
  The walks of ClockKnown and ClockLater. Own work.
-/
import Derived.Test.YtfapkffdhflliaaClkF
import Derived.OpenShut
namespace Go.Proofs.Ytfapkffdhflliaa
open Go.RowKit
set_option linter.unusedVariables false
set_option maxHeartbeats 4000000 in
theorem clockKnown_walk (w : World) : Calls Try.prog 3 #[] w fun e w' => e = .returned (.bool true) ∧ Below w.heap.size w w' := by
  go_enter Try.func3, Try.ntmps3
  go_wp2_with fail
  refine (Clk.next_ok 10 3 2 100 1 104 _ (by decide) (by decide) (by decide) (by decide) (by decide) (by decide) (by decide) (by decide) (by decide) (by decide) (by decide) (by decide)).mono ?_
  rintro e w1 ⟨rfl, hb1⟩
  rw [show min ((1 : Int) + 104 - 100) (10 - 3) = 5 by decide]
  have hz1 := hb1.size
  try simp at hz1
  have B1 := (by first | exact blo0 (Below.refl _ _) hb1 (Nat.le_refl _) | exact blo1 (Below.refl _ _) hb1 (Nat.le_refl _) | exact blo2 (Below.refl _ _) hb1 (Nat.le_refl _) | exact blo3 (Below.refl _ _) hb1 (Nat.le_refl _) : Below w.heap.size w w1)
  have z1_0 : w.heap.size < w1.heap.size := by omega
  have k1_0_0 := keep1 (x := .int .u64 10) (o := 0) (b := w.heap.size) hb1 (by (simp (disch := omega) [go_sem, *]) <;> rfl)
  have k1_0_1 := keep1 (x := .int .u64 3) (o := 1) (b := w.heap.size) hb1 (by (simp (disch := omega) [go_sem, *]) <;> rfl)
  have z1_1 : w.heap.size + 1 < w1.heap.size := by omega
  have k1_1_0 := keep1 (x := .int .u64 2) (o := 0) (b := w.heap.size + 1) hb1 (by (simp (disch := omega) [go_sem, *]) <;> rfl)
  have k1_1_1 := keep1 (x := .int .u64 100) (o := 1) (b := w.heap.size + 1) hb1 (by (simp (disch := omega) [go_sem, *]) <;> rfl)
  go_wp2_with fail
  refine (Clk.next_ok 10 3 2 100 1 107 _ (by decide) (by decide) (by decide) (by decide) (by decide) (by decide) (by decide) (by decide) (by decide) (by decide) (by decide) (by decide)).mono ?_
  rintro e w2 ⟨rfl, hb2⟩
  rw [show min ((1 : Int) + 107 - 100) (10 - 3) = 7 by decide]
  have hz2 := hb2.size
  try simp at hz2
  have B2 := (by first | exact blo0 B1 hb2 (by omega) | exact blo1 B1 hb2 (by omega) | exact blo2 B1 hb2 (by omega) | exact blo3 B1 hb2 (by omega) : Below w.heap.size w w2)
  have z2_0 : w.heap.size < w2.heap.size := by omega
  have k2_0_0 := keep1 (x := .int .u64 10) (o := 0) (b := w.heap.size) hb2 (by (simp (disch := omega) [go_sem, *]) <;> rfl)
  have k2_0_1 := keep1 (x := .int .u64 3) (o := 1) (b := w.heap.size) hb2 (by (simp (disch := omega) [go_sem, *]) <;> rfl)
  have z2_1 : w.heap.size + 1 < w2.heap.size := by omega
  have k2_1_0 := keep1 (x := .int .u64 2) (o := 0) (b := w.heap.size + 1) hb2 (by (simp (disch := omega) [go_sem, *]) <;> rfl)
  have k2_1_1 := keep1 (x := .int .u64 100) (o := 1) (b := w.heap.size + 1) hb2 (by (simp (disch := omega) [go_sem, *]) <;> rfl)
  have z2_2 : w1.heap.size < w2.heap.size := by omega
  have k2_2_0 := keep1 (x := .int .u64 5) (o := 0) (b := w1.heap.size) hb2 (by (simp (disch := omega) [go_sem, *]) <;> rfl)
  have k2_2_1 := keep1 (x := .int .u64 104) (o := 1) (b := w1.heap.size) hb2 (by (simp (disch := omega) [go_sem, *]) <;> rfl)
  clear k1_0_0 k1_0_1 z1_0 k1_1_0 k1_1_1 z1_1
  go_wp2_with fail
  refine (Clk.next_out 10 3 2 100 1 109 _ (by decide) (by decide) (by decide) (by decide) (by decide) (by decide) (by decide) (by decide) (by decide) (by decide) (by decide)).mono ?_
  rintro e w3 ⟨rfl, hb3⟩
  have hz3 := hb3.size
  try simp at hz3
  have B3 := (by first | exact blo0 B2 hb3 (by omega) | exact blo1 B2 hb3 (by omega) | exact blo2 B2 hb3 (by omega) | exact blo3 B2 hb3 (by omega) : Below w.heap.size w w3)
  have z3_0 : w.heap.size < w3.heap.size := by omega
  have k3_0_0 := keep1 (x := .int .u64 10) (o := 0) (b := w.heap.size) hb3 (by (simp (disch := omega) [go_sem, *]) <;> rfl)
  have k3_0_1 := keep1 (x := .int .u64 3) (o := 1) (b := w.heap.size) hb3 (by (simp (disch := omega) [go_sem, *]) <;> rfl)
  have z3_1 : w.heap.size + 1 < w3.heap.size := by omega
  have k3_1_0 := keep1 (x := .int .u64 2) (o := 0) (b := w.heap.size + 1) hb3 (by (simp (disch := omega) [go_sem, *]) <;> rfl)
  have k3_1_1 := keep1 (x := .int .u64 100) (o := 1) (b := w.heap.size + 1) hb3 (by (simp (disch := omega) [go_sem, *]) <;> rfl)
  have z3_2 : w1.heap.size < w3.heap.size := by omega
  have k3_2_0 := keep1 (x := .int .u64 5) (o := 0) (b := w1.heap.size) hb3 (by (simp (disch := omega) [go_sem, *]) <;> rfl)
  have k3_2_1 := keep1 (x := .int .u64 104) (o := 1) (b := w1.heap.size) hb3 (by (simp (disch := omega) [go_sem, *]) <;> rfl)
  have z3_3 : w2.heap.size < w3.heap.size := by omega
  have k3_3_0 := keep1 (x := .int .u64 7) (o := 0) (b := w2.heap.size) hb3 (by (simp (disch := omega) [go_sem, *]) <;> rfl)
  have k3_3_1 := keep1 (x := .int .u64 107) (o := 1) (b := w2.heap.size) hb3 (by (simp (disch := omega) [go_sem, *]) <;> rfl)
  clear k2_0_0 k2_0_1 z2_0 k2_1_0 k2_1_1 z2_1 k2_2_0 k2_2_1 z2_2
  go_wp2_with fail
  refine (Clk.over_ok 10 3 2 100 1 109 _ (by decide) (by decide) (by decide) (by decide) (by decide) (by decide) (by decide) (by decide) (by decide) (by decide)).mono ?_
  rintro e w4 ⟨rfl, hb4⟩
  have hz4 := hb4.size
  try simp at hz4
  have B4 := (by first | exact blo0 B3 hb4 (by omega) | exact blo1 B3 hb4 (by omega) | exact blo2 B3 hb4 (by omega) | exact blo3 B3 hb4 (by omega) : Below w.heap.size w w4)
  have z4_0 : w.heap.size < w4.heap.size := by omega
  have k4_0_0 := keep1 (x := .int .u64 10) (o := 0) (b := w.heap.size) hb4 (by (simp (disch := omega) [go_sem, *]) <;> rfl)
  have k4_0_1 := keep1 (x := .int .u64 3) (o := 1) (b := w.heap.size) hb4 (by (simp (disch := omega) [go_sem, *]) <;> rfl)
  have z4_1 : w.heap.size + 1 < w4.heap.size := by omega
  have k4_1_0 := keep1 (x := .int .u64 2) (o := 0) (b := w.heap.size + 1) hb4 (by (simp (disch := omega) [go_sem, *]) <;> rfl)
  have k4_1_1 := keep1 (x := .int .u64 100) (o := 1) (b := w.heap.size + 1) hb4 (by (simp (disch := omega) [go_sem, *]) <;> rfl)
  have z4_2 : w1.heap.size < w4.heap.size := by omega
  have k4_2_0 := keep1 (x := .int .u64 5) (o := 0) (b := w1.heap.size) hb4 (by (simp (disch := omega) [go_sem, *]) <;> rfl)
  have k4_2_1 := keep1 (x := .int .u64 104) (o := 1) (b := w1.heap.size) hb4 (by (simp (disch := omega) [go_sem, *]) <;> rfl)
  have z4_3 : w2.heap.size < w4.heap.size := by omega
  have k4_3_0 := keep1 (x := .int .u64 7) (o := 0) (b := w2.heap.size) hb4 (by (simp (disch := omega) [go_sem, *]) <;> rfl)
  have k4_3_1 := keep1 (x := .int .u64 107) (o := 1) (b := w2.heap.size) hb4 (by (simp (disch := omega) [go_sem, *]) <;> rfl)
  clear k3_0_0 k3_0_1 z3_0 k3_1_0 k3_1_1 z3_1 k3_2_0 k3_2_1 z3_2 k3_3_0 k3_3_1 z3_3
  rw [show decide ((10 : Int) ≤ 1 + 109 - 100) = true by decide]
  go_wp2_with fail
  refine (Clk.spent_bad 2 100 1 99 _ (by decide)).mono ?_
  rintro e w5 ⟨rfl, hb5⟩
  have hz5 := hb5.size
  try simp at hz5
  have B5 := (by first | exact blo0 B4 hb5 (by omega) | exact blo1 B4 hb5 (by omega) | exact blo2 B4 hb5 (by omega) | exact blo3 B4 hb5 (by omega) : Below w.heap.size w w5)
  have z5_0 : w.heap.size < w5.heap.size := by omega
  have k5_0_0 := keep1 (x := .int .u64 10) (o := 0) (b := w.heap.size) hb5 (by (simp (disch := omega) [go_sem, *]) <;> rfl)
  have k5_0_1 := keep1 (x := .int .u64 3) (o := 1) (b := w.heap.size) hb5 (by (simp (disch := omega) [go_sem, *]) <;> rfl)
  have z5_1 : w.heap.size + 1 < w5.heap.size := by omega
  have k5_1_0 := keep1 (x := .int .u64 2) (o := 0) (b := w.heap.size + 1) hb5 (by (simp (disch := omega) [go_sem, *]) <;> rfl)
  have k5_1_1 := keep1 (x := .int .u64 100) (o := 1) (b := w.heap.size + 1) hb5 (by (simp (disch := omega) [go_sem, *]) <;> rfl)
  have z5_2 : w1.heap.size < w5.heap.size := by omega
  have k5_2_0 := keep1 (x := .int .u64 5) (o := 0) (b := w1.heap.size) hb5 (by (simp (disch := omega) [go_sem, *]) <;> rfl)
  have k5_2_1 := keep1 (x := .int .u64 104) (o := 1) (b := w1.heap.size) hb5 (by (simp (disch := omega) [go_sem, *]) <;> rfl)
  have z5_3 : w2.heap.size < w5.heap.size := by omega
  have k5_3_0 := keep1 (x := .int .u64 7) (o := 0) (b := w2.heap.size) hb5 (by (simp (disch := omega) [go_sem, *]) <;> rfl)
  have k5_3_1 := keep1 (x := .int .u64 107) (o := 1) (b := w2.heap.size) hb5 (by (simp (disch := omega) [go_sem, *]) <;> rfl)
  clear k4_0_0 k4_0_1 z4_0 k4_1_0 k4_1_1 z4_1 k4_2_0 k4_2_1 z4_2 k4_3_0 k4_3_1 z4_3
  go_wp2_with fail
  refine (fixed_true _).mono ?_
  rintro e w6 ⟨rfl, hb6⟩
  have hz6 := hb6.size
  try simp at hz6
  have B6 := (by first | exact blo0 B5 hb6 (by omega) | exact blo1 B5 hb6 (by omega) | exact blo2 B5 hb6 (by omega) | exact blo3 B5 hb6 (by omega) : Below w.heap.size w w6)
  have z6_0 : w.heap.size < w6.heap.size := by omega
  have k6_0_0 := keep1 (x := .int .u64 10) (o := 0) (b := w.heap.size) hb6 (by (simp (disch := omega) [go_sem, *]) <;> rfl)
  have k6_0_1 := keep1 (x := .int .u64 3) (o := 1) (b := w.heap.size) hb6 (by (simp (disch := omega) [go_sem, *]) <;> rfl)
  have z6_1 : w.heap.size + 1 < w6.heap.size := by omega
  have k6_1_0 := keep1 (x := .int .u64 2) (o := 0) (b := w.heap.size + 1) hb6 (by (simp (disch := omega) [go_sem, *]) <;> rfl)
  have k6_1_1 := keep1 (x := .int .u64 100) (o := 1) (b := w.heap.size + 1) hb6 (by (simp (disch := omega) [go_sem, *]) <;> rfl)
  have z6_2 : w1.heap.size < w6.heap.size := by omega
  have k6_2_0 := keep1 (x := .int .u64 5) (o := 0) (b := w1.heap.size) hb6 (by (simp (disch := omega) [go_sem, *]) <;> rfl)
  have k6_2_1 := keep1 (x := .int .u64 104) (o := 1) (b := w1.heap.size) hb6 (by (simp (disch := omega) [go_sem, *]) <;> rfl)
  have z6_3 : w2.heap.size < w6.heap.size := by omega
  have k6_3_0 := keep1 (x := .int .u64 7) (o := 0) (b := w2.heap.size) hb6 (by (simp (disch := omega) [go_sem, *]) <;> rfl)
  have k6_3_1 := keep1 (x := .int .u64 107) (o := 1) (b := w2.heap.size) hb6 (by (simp (disch := omega) [go_sem, *]) <;> rfl)
  clear k5_0_0 k5_0_1 z5_0 k5_1_0 k5_1_1 z5_1 k5_2_0 k5_2_1 z5_2 k5_3_0 k5_3_1 z5_3
  go_wp2_with fail
  refine (Err.is_num _ _ _).mono ?_
  rintro e w' ⟨rfl, rfl⟩
  go_wp2_with fail
  refine (Err.is_num _ _ _).mono ?_
  rintro e w' ⟨rfl, rfl⟩
  go_wp2_with fail
  refine (Clk.check_bad 0 0 _ (by decide)).mono ?_
  rintro e w7 ⟨rfl, hb7⟩
  have hz7 := hb7.size
  try simp at hz7
  have B7 := (by first | exact blo0 B6 hb7 (by omega) | exact blo1 B6 hb7 (by omega) | exact blo2 B6 hb7 (by omega) | exact blo3 B6 hb7 (by omega) : Below w.heap.size w w7)
  have z7_0 : w.heap.size < w7.heap.size := by omega
  have k7_0_0 := keep1 (x := .int .u64 10) (o := 0) (b := w.heap.size) hb7 (by (simp (disch := omega) [go_sem, *]) <;> rfl)
  have k7_0_1 := keep1 (x := .int .u64 3) (o := 1) (b := w.heap.size) hb7 (by (simp (disch := omega) [go_sem, *]) <;> rfl)
  have z7_1 : w.heap.size + 1 < w7.heap.size := by omega
  have k7_1_0 := keep1 (x := .int .u64 2) (o := 0) (b := w.heap.size + 1) hb7 (by (simp (disch := omega) [go_sem, *]) <;> rfl)
  have k7_1_1 := keep1 (x := .int .u64 100) (o := 1) (b := w.heap.size + 1) hb7 (by (simp (disch := omega) [go_sem, *]) <;> rfl)
  have z7_2 : w1.heap.size < w7.heap.size := by omega
  have k7_2_0 := keep1 (x := .int .u64 5) (o := 0) (b := w1.heap.size) hb7 (by (simp (disch := omega) [go_sem, *]) <;> rfl)
  have k7_2_1 := keep1 (x := .int .u64 104) (o := 1) (b := w1.heap.size) hb7 (by (simp (disch := omega) [go_sem, *]) <;> rfl)
  have z7_3 : w2.heap.size < w7.heap.size := by omega
  have k7_3_0 := keep1 (x := .int .u64 7) (o := 0) (b := w2.heap.size) hb7 (by (simp (disch := omega) [go_sem, *]) <;> rfl)
  have k7_3_1 := keep1 (x := .int .u64 107) (o := 1) (b := w2.heap.size) hb7 (by (simp (disch := omega) [go_sem, *]) <;> rfl)
  clear k6_0_0 k6_0_1 z6_0 k6_1_0 k6_1_1 z6_1 k6_2_0 k6_2_1 z6_2 k6_3_0 k6_3_1 z6_3
  go_wp2_with fail
  refine (Err.is_num _ _ _).mono ?_
  rintro e w' ⟨rfl, rfl⟩
  go_wp2_with fail
  refine (Clk.check_ok 1099511627776 1099511627776 _ (by decide) (by decide) (by decide)).mono ?_
  rintro e w8 ⟨rfl, hb8⟩
  have hz8 := hb8.size
  try simp at hz8
  have B8 := (by first | exact blo0 B7 hb8 (by omega) | exact blo1 B7 hb8 (by omega) | exact blo2 B7 hb8 (by omega) | exact blo3 B7 hb8 (by omega) : Below w.heap.size w w8)
  have z8_0 : w.heap.size < w8.heap.size := by omega
  have k8_0_0 := keep1 (x := .int .u64 10) (o := 0) (b := w.heap.size) hb8 (by (simp (disch := omega) [go_sem, *]) <;> rfl)
  have k8_0_1 := keep1 (x := .int .u64 3) (o := 1) (b := w.heap.size) hb8 (by (simp (disch := omega) [go_sem, *]) <;> rfl)
  have z8_1 : w.heap.size + 1 < w8.heap.size := by omega
  have k8_1_0 := keep1 (x := .int .u64 2) (o := 0) (b := w.heap.size + 1) hb8 (by (simp (disch := omega) [go_sem, *]) <;> rfl)
  have k8_1_1 := keep1 (x := .int .u64 100) (o := 1) (b := w.heap.size + 1) hb8 (by (simp (disch := omega) [go_sem, *]) <;> rfl)
  have z8_2 : w1.heap.size < w8.heap.size := by omega
  have k8_2_0 := keep1 (x := .int .u64 5) (o := 0) (b := w1.heap.size) hb8 (by (simp (disch := omega) [go_sem, *]) <;> rfl)
  have k8_2_1 := keep1 (x := .int .u64 104) (o := 1) (b := w1.heap.size) hb8 (by (simp (disch := omega) [go_sem, *]) <;> rfl)
  have z8_3 : w2.heap.size < w8.heap.size := by omega
  have k8_3_0 := keep1 (x := .int .u64 7) (o := 0) (b := w2.heap.size) hb8 (by (simp (disch := omega) [go_sem, *]) <;> rfl)
  have k8_3_1 := keep1 (x := .int .u64 107) (o := 1) (b := w2.heap.size) hb8 (by (simp (disch := omega) [go_sem, *]) <;> rfl)
  clear k7_0_0 k7_0_1 z7_0 k7_1_0 k7_1_1 z7_1 k7_2_0 k7_2_1 z7_2 k7_3_0 k7_3_1 z7_3
  go_wp2_with fail
  go_ret
  exact ⟨rfl, B8⟩
set_option maxRecDepth 100000 in
set_option maxHeartbeats 4000000 in
theorem later_out (l g u a b t m L R U A B T M : Int) (w : World)
    (eL : 1 + l % 1048576 = L) (eR : g % (L + 1) = R) (eU : u % 1048576 = U) (eA : a % 1048576 = A) (eB : b % 2097152 = B) (eT : t % 2097152 = T) (eM : m % 1048576 = M)
    (l0 : 0 ≤ l) (g0 : 0 ≤ g) (u0 : 0 ≤ u) (a0 : 0 ≤ a) (b0 : 0 ≤ b) (t0 : 0 ≤ t) (m0 : 0 ≤ m)
    (hL : 1 ≤ L ∧ L ≤ 1048576) (hR : 0 ≤ R ∧ R ≤ L) (hU : 0 ≤ U ∧ U < 1048576) (hA : 0 ≤ A ∧ A < 1048576) (hB : 0 ≤ B ∧ B < 2097152) (hT : 0 ≤ T ∧ T < 2097152) (hM : 0 ≤ M ∧ M < 1048576)
    (hx : decide (L ≤ B + T) = true) (hs : L ≤ B + T) :
    Calls Try.prog 4 #[.int .u64 l, .int .u64 g, .int .u64 u, .int .u64 a, .int .u64 b, .int .u64 t, .int .u64 m] w fun e w' => e = .returned (.bool true) ∧ Below w.heap.size w w' := by
  have hy : decide (L ≤ B + T + M) = true := by simp; omega
  go_enter Try.func4, Try.ntmps4
  go_wp2_with fail
  refine (Clk.spent_ok U A B (A + T) _ (by omega) (by omega) (by omega) (by omega) (by omega) (by omega) (by omega)).mono ?_
  rintro e w1 ⟨rfl, hb1⟩
  rw [show B + (A + T) - A = B + T by omega]
  have hz1 := hb1.size
  try simp at hz1
  have B1 := (by first | exact blo0 (Below.refl _ _) hb1 (Nat.le_refl _) | exact blo1 (Below.refl _ _) hb1 (Nat.le_refl _) | exact blo2 (Below.refl _ _) hb1 (Nat.le_refl _) | exact blo3 (Below.refl _ _) hb1 (Nat.le_refl _) : Below w.heap.size w w1)
  have z1_0 : w.heap.size < w1.heap.size := by omega
  have k1_0_0 := keep1 (x := .int .u64 L) (o := 0) (b := w.heap.size) hb1 (by (simp (disch := omega) [go_sem, *]) <;> rfl)
  have k1_0_1 := keep1 (x := .int .u64 R) (o := 1) (b := w.heap.size) hb1 (by (simp (disch := omega) [go_sem, *]) <;> rfl)
  have z1_1 : w.heap.size + 1 < w1.heap.size := by omega
  have k1_1_0 := keep1 (x := .int .u64 U) (o := 0) (b := w.heap.size + 1) hb1 (by (simp (disch := omega) [go_sem, *]) <;> rfl)
  have k1_1_1 := keep1 (x := .int .u64 A) (o := 1) (b := w.heap.size + 1) hb1 (by (simp (disch := omega) [go_sem, *]) <;> rfl)
  go_wp2_with fail
  refine (Clk.spent_ok U A B (A + T + M) _ (by omega) (by omega) (by omega) (by omega) (by omega) (by omega) (by omega)).mono ?_
  rintro e w2 ⟨rfl, hb2⟩
  rw [show B + (A + T + M) - A = B + T + M by omega]
  have hz2 := hb2.size
  try simp at hz2
  have B2 := (by first | exact blo0 B1 hb2 (by omega) | exact blo1 B1 hb2 (by omega) | exact blo2 B1 hb2 (by omega) | exact blo3 B1 hb2 (by omega) : Below w.heap.size w w2)
  have z2_0 : w.heap.size < w2.heap.size := by omega
  have k2_0_0 := keep1 (x := .int .u64 L) (o := 0) (b := w.heap.size) hb2 (by (simp (disch := omega) [go_sem, *]) <;> rfl)
  have k2_0_1 := keep1 (x := .int .u64 R) (o := 1) (b := w.heap.size) hb2 (by (simp (disch := omega) [go_sem, *]) <;> rfl)
  have z2_1 : w.heap.size + 1 < w2.heap.size := by omega
  have k2_1_0 := keep1 (x := .int .u64 U) (o := 0) (b := w.heap.size + 1) hb2 (by (simp (disch := omega) [go_sem, *]) <;> rfl)
  have k2_1_1 := keep1 (x := .int .u64 A) (o := 1) (b := w.heap.size + 1) hb2 (by (simp (disch := omega) [go_sem, *]) <;> rfl)
  clear k1_0_0 k1_0_1 z1_0 k1_1_0 k1_1_1 z1_1
  go_wp2_with fail
  refine (Clk.over_ok L R U A B (A + T) _ (by omega) (by omega) (by omega) (by omega) (by omega) (by omega) (by omega) (by omega) (by omega) (by omega) ).mono ?_
  rintro e w3 ⟨rfl, hb3⟩
  rw [show B + (A + T) - A = B + T by omega]
  rw [hx]
  have hz3 := hb3.size
  try simp at hz3
  have B3 := (by first | exact blo0 B2 hb3 (by omega) | exact blo1 B2 hb3 (by omega) | exact blo2 B2 hb3 (by omega) | exact blo3 B2 hb3 (by omega) : Below w.heap.size w w3)
  have z3_0 : w.heap.size < w3.heap.size := by omega
  have k3_0_0 := keep1 (x := .int .u64 L) (o := 0) (b := w.heap.size) hb3 (by (simp (disch := omega) [go_sem, *]) <;> rfl)
  have k3_0_1 := keep1 (x := .int .u64 R) (o := 1) (b := w.heap.size) hb3 (by (simp (disch := omega) [go_sem, *]) <;> rfl)
  have z3_1 : w.heap.size + 1 < w3.heap.size := by omega
  have k3_1_0 := keep1 (x := .int .u64 U) (o := 0) (b := w.heap.size + 1) hb3 (by (simp (disch := omega) [go_sem, *]) <;> rfl)
  have k3_1_1 := keep1 (x := .int .u64 A) (o := 1) (b := w.heap.size + 1) hb3 (by (simp (disch := omega) [go_sem, *]) <;> rfl)
  clear k2_0_0 k2_0_1 z2_0 k2_1_0 k2_1_1 z2_1
  go_wp2_with fail
  refine (Clk.over_ok L R U A B (A + T + M) _ (by omega) (by omega) (by omega) (by omega) (by omega) (by omega) (by omega) (by omega) (by omega) (by omega) ).mono ?_
  rintro e w4 ⟨rfl, hb4⟩
  rw [show B + (A + T + M) - A = B + T + M by omega]
  rw [hy]
  have hz4 := hb4.size
  try simp at hz4
  have B4 := (by first | exact blo0 B3 hb4 (by omega) | exact blo1 B3 hb4 (by omega) | exact blo2 B3 hb4 (by omega) | exact blo3 B3 hb4 (by omega) : Below w.heap.size w w4)
  have z4_0 : w.heap.size < w4.heap.size := by omega
  have k4_0_0 := keep1 (x := .int .u64 L) (o := 0) (b := w.heap.size) hb4 (by (simp (disch := omega) [go_sem, *]) <;> rfl)
  have k4_0_1 := keep1 (x := .int .u64 R) (o := 1) (b := w.heap.size) hb4 (by (simp (disch := omega) [go_sem, *]) <;> rfl)
  have z4_1 : w.heap.size + 1 < w4.heap.size := by omega
  have k4_1_0 := keep1 (x := .int .u64 U) (o := 0) (b := w.heap.size + 1) hb4 (by (simp (disch := omega) [go_sem, *]) <;> rfl)
  have k4_1_1 := keep1 (x := .int .u64 A) (o := 1) (b := w.heap.size + 1) hb4 (by (simp (disch := omega) [go_sem, *]) <;> rfl)
  clear k3_0_0 k3_0_1 z3_0 k3_1_0 k3_1_1 z3_1
  go_wp2_with fail
  refine (Clk.next_out L R U A B (A + T) _ (by omega) (by omega) (by omega) (by omega) (by omega) (by omega) (by omega) (by omega) (by omega) (by omega) (by omega)).mono ?_
  rintro e w5 ⟨rfl, hb5⟩
  have hz5 := hb5.size
  try simp at hz5
  have B5 := (by first | exact blo0 B4 hb5 (by omega) | exact blo1 B4 hb5 (by omega) | exact blo2 B4 hb5 (by omega) | exact blo3 B4 hb5 (by omega) : Below w.heap.size w w5)
  have z5_0 : w.heap.size < w5.heap.size := by omega
  have k5_0_0 := keep1 (x := .int .u64 L) (o := 0) (b := w.heap.size) hb5 (by (simp (disch := omega) [go_sem, *]) <;> rfl)
  have k5_0_1 := keep1 (x := .int .u64 R) (o := 1) (b := w.heap.size) hb5 (by (simp (disch := omega) [go_sem, *]) <;> rfl)
  have z5_1 : w.heap.size + 1 < w5.heap.size := by omega
  have k5_1_0 := keep1 (x := .int .u64 U) (o := 0) (b := w.heap.size + 1) hb5 (by (simp (disch := omega) [go_sem, *]) <;> rfl)
  have k5_1_1 := keep1 (x := .int .u64 A) (o := 1) (b := w.heap.size + 1) hb5 (by (simp (disch := omega) [go_sem, *]) <;> rfl)
  clear k4_0_0 k4_0_1 z4_0 k4_1_0 k4_1_1 z4_1
  go_wp2_with fail
  refine (fixed_true _).mono ?_
  rintro e w6 ⟨rfl, hb6⟩
  have hz6 := hb6.size
  try simp at hz6
  have B6 := (by first | exact blo0 B5 hb6 (by omega) | exact blo1 B5 hb6 (by omega) | exact blo2 B5 hb6 (by omega) | exact blo3 B5 hb6 (by omega) : Below w.heap.size w w6)
  have z6_0 : w.heap.size < w6.heap.size := by omega
  have k6_0_0 := keep1 (x := .int .u64 L) (o := 0) (b := w.heap.size) hb6 (by (simp (disch := omega) [go_sem, *]) <;> rfl)
  have k6_0_1 := keep1 (x := .int .u64 R) (o := 1) (b := w.heap.size) hb6 (by (simp (disch := omega) [go_sem, *]) <;> rfl)
  have z6_1 : w.heap.size + 1 < w6.heap.size := by omega
  have k6_1_0 := keep1 (x := .int .u64 U) (o := 0) (b := w.heap.size + 1) hb6 (by (simp (disch := omega) [go_sem, *]) <;> rfl)
  have k6_1_1 := keep1 (x := .int .u64 A) (o := 1) (b := w.heap.size + 1) hb6 (by (simp (disch := omega) [go_sem, *]) <;> rfl)
  have z6_2 : w5.heap.size < w6.heap.size := by omega
  have k6_2_0 := keep1 (x := .int .u64 0) (o := 0) (b := w5.heap.size) hb6 (by (simp (disch := omega) [go_sem, *]) <;> rfl)
  have k6_2_1 := keep1 (x := .int .u64 0) (o := 1) (b := w5.heap.size) hb6 (by (simp (disch := omega) [go_sem, *]) <;> rfl)
  clear k5_0_0 k5_0_1 z5_0 k5_1_0 k5_1_1 z5_1
  go_wp2_with fail
  all_goals (go_ret; exact ⟨rfl, B6⟩)
set_option maxRecDepth 100000 in
set_option maxHeartbeats 4000000 in
theorem later_in (l g u a b t m L R U A B T M N : Int) (w : World)
    (eL : 1 + l % 1048576 = L) (eR : g % (L + 1) = R) (eU : u % 1048576 = U) (eA : a % 1048576 = A) (eB : b % 2097152 = B) (eT : t % 2097152 = T) (eM : m % 1048576 = M)
    (l0 : 0 ≤ l) (g0 : 0 ≤ g) (u0 : 0 ≤ u) (a0 : 0 ≤ a) (b0 : 0 ≤ b) (t0 : 0 ≤ t) (m0 : 0 ≤ m)
    (hL : 1 ≤ L ∧ L ≤ 1048576) (hR : 0 ≤ R ∧ R ≤ L) (hU : 0 ≤ U ∧ U < 1048576) (hA : 0 ≤ A ∧ A < 1048576) (hB : 0 ≤ B ∧ B < 2097152) (hT : 0 ≤ T ∧ T < 2097152) (hM : 0 ≤ M ∧ M < 1048576)
    (hx : decide (L ≤ B + T) = false) (hs : ¬ L ≤ B + T) (hN : (N = B + T ∧ N ≤ L - R) ∨ (N = L - R ∧ N < B + T)) (y : Bool) (hy : decide (L ≤ B + T + M) = y) :
    Calls Try.prog 4 #[.int .u64 l, .int .u64 g, .int .u64 u, .int .u64 a, .int .u64 b, .int .u64 t, .int .u64 m] w fun e w' => e = .returned (.bool true) ∧ Below w.heap.size w w' := by
  have q1 : ((N == B + T) || (N == L - R)) = true := by simp; omega
  go_enter Try.func4, Try.ntmps4
  go_wp2_with fail
  refine (Clk.spent_ok U A B (A + T) _ (by omega) (by omega) (by omega) (by omega) (by omega) (by omega) (by omega)).mono ?_
  rintro e w1 ⟨rfl, hb1⟩
  rw [show B + (A + T) - A = B + T by omega]
  have hz1 := hb1.size
  try simp at hz1
  have B1 := (by first | exact blo0 (Below.refl _ _) hb1 (Nat.le_refl _) | exact blo1 (Below.refl _ _) hb1 (Nat.le_refl _) | exact blo2 (Below.refl _ _) hb1 (Nat.le_refl _) | exact blo3 (Below.refl _ _) hb1 (Nat.le_refl _) : Below w.heap.size w w1)
  have z1_0 : w.heap.size < w1.heap.size := by omega
  have k1_0_0 := keep1 (x := .int .u64 L) (o := 0) (b := w.heap.size) hb1 (by (simp (disch := omega) [go_sem, *]) <;> rfl)
  have k1_0_1 := keep1 (x := .int .u64 R) (o := 1) (b := w.heap.size) hb1 (by (simp (disch := omega) [go_sem, *]) <;> rfl)
  have z1_1 : w.heap.size + 1 < w1.heap.size := by omega
  have k1_1_0 := keep1 (x := .int .u64 U) (o := 0) (b := w.heap.size + 1) hb1 (by (simp (disch := omega) [go_sem, *]) <;> rfl)
  have k1_1_1 := keep1 (x := .int .u64 A) (o := 1) (b := w.heap.size + 1) hb1 (by (simp (disch := omega) [go_sem, *]) <;> rfl)
  go_wp2_with fail
  refine (Clk.spent_ok U A B (A + T + M) _ (by omega) (by omega) (by omega) (by omega) (by omega) (by omega) (by omega)).mono ?_
  rintro e w2 ⟨rfl, hb2⟩
  rw [show B + (A + T + M) - A = B + T + M by omega]
  have hz2 := hb2.size
  try simp at hz2
  have B2 := (by first | exact blo0 B1 hb2 (by omega) | exact blo1 B1 hb2 (by omega) | exact blo2 B1 hb2 (by omega) | exact blo3 B1 hb2 (by omega) : Below w.heap.size w w2)
  have z2_0 : w.heap.size < w2.heap.size := by omega
  have k2_0_0 := keep1 (x := .int .u64 L) (o := 0) (b := w.heap.size) hb2 (by (simp (disch := omega) [go_sem, *]) <;> rfl)
  have k2_0_1 := keep1 (x := .int .u64 R) (o := 1) (b := w.heap.size) hb2 (by (simp (disch := omega) [go_sem, *]) <;> rfl)
  have z2_1 : w.heap.size + 1 < w2.heap.size := by omega
  have k2_1_0 := keep1 (x := .int .u64 U) (o := 0) (b := w.heap.size + 1) hb2 (by (simp (disch := omega) [go_sem, *]) <;> rfl)
  have k2_1_1 := keep1 (x := .int .u64 A) (o := 1) (b := w.heap.size + 1) hb2 (by (simp (disch := omega) [go_sem, *]) <;> rfl)
  clear k1_0_0 k1_0_1 z1_0 k1_1_0 k1_1_1 z1_1
  go_wp2_with fail
  refine (Clk.over_ok L R U A B (A + T) _ (by omega) (by omega) (by omega) (by omega) (by omega) (by omega) (by omega) (by omega) (by omega) (by omega) ).mono ?_
  rintro e w3 ⟨rfl, hb3⟩
  rw [show B + (A + T) - A = B + T by omega]
  rw [hx]
  have hz3 := hb3.size
  try simp at hz3
  have B3 := (by first | exact blo0 B2 hb3 (by omega) | exact blo1 B2 hb3 (by omega) | exact blo2 B2 hb3 (by omega) | exact blo3 B2 hb3 (by omega) : Below w.heap.size w w3)
  have z3_0 : w.heap.size < w3.heap.size := by omega
  have k3_0_0 := keep1 (x := .int .u64 L) (o := 0) (b := w.heap.size) hb3 (by (simp (disch := omega) [go_sem, *]) <;> rfl)
  have k3_0_1 := keep1 (x := .int .u64 R) (o := 1) (b := w.heap.size) hb3 (by (simp (disch := omega) [go_sem, *]) <;> rfl)
  have z3_1 : w.heap.size + 1 < w3.heap.size := by omega
  have k3_1_0 := keep1 (x := .int .u64 U) (o := 0) (b := w.heap.size + 1) hb3 (by (simp (disch := omega) [go_sem, *]) <;> rfl)
  have k3_1_1 := keep1 (x := .int .u64 A) (o := 1) (b := w.heap.size + 1) hb3 (by (simp (disch := omega) [go_sem, *]) <;> rfl)
  clear k2_0_0 k2_0_1 z2_0 k2_1_0 k2_1_1 z2_1
  go_wp2_with fail
  refine (Clk.over_ok L R U A B (A + T + M) _ (by omega) (by omega) (by omega) (by omega) (by omega) (by omega) (by omega) (by omega) (by omega) (by omega) ).mono ?_
  rintro e w4 ⟨rfl, hb4⟩
  rw [show B + (A + T + M) - A = B + T + M by omega]
  rw [hy]
  have hz4 := hb4.size
  try simp at hz4
  have B4 := (by first | exact blo0 B3 hb4 (by omega) | exact blo1 B3 hb4 (by omega) | exact blo2 B3 hb4 (by omega) | exact blo3 B3 hb4 (by omega) : Below w.heap.size w w4)
  have z4_0 : w.heap.size < w4.heap.size := by omega
  have k4_0_0 := keep1 (x := .int .u64 L) (o := 0) (b := w.heap.size) hb4 (by (simp (disch := omega) [go_sem, *]) <;> rfl)
  have k4_0_1 := keep1 (x := .int .u64 R) (o := 1) (b := w.heap.size) hb4 (by (simp (disch := omega) [go_sem, *]) <;> rfl)
  have z4_1 : w.heap.size + 1 < w4.heap.size := by omega
  have k4_1_0 := keep1 (x := .int .u64 U) (o := 0) (b := w.heap.size + 1) hb4 (by (simp (disch := omega) [go_sem, *]) <;> rfl)
  have k4_1_1 := keep1 (x := .int .u64 A) (o := 1) (b := w.heap.size + 1) hb4 (by (simp (disch := omega) [go_sem, *]) <;> rfl)
  clear k3_0_0 k3_0_1 z3_0 k3_1_0 k3_1_1 z3_1
  go_wp2_with fail
  refine (Clk.next_ok L R U A B (A + T) _ (by omega) (by omega) (by omega) (by omega) (by omega) (by omega) (by omega) (by omega) (by omega) (by omega) (by omega) (by omega)).mono ?_
  rintro e w5 ⟨rfl, hb5⟩
  rw [show min (B + (A + T) - A) (L - R) = N by omega]
  have hz5 := hb5.size
  try simp at hz5
  have B5 := (by first | exact blo0 B4 hb5 (by omega) | exact blo1 B4 hb5 (by omega) | exact blo2 B4 hb5 (by omega) | exact blo3 B4 hb5 (by omega) : Below w.heap.size w w5)
  have z5_0 : w.heap.size < w5.heap.size := by omega
  have k5_0_0 := keep1 (x := .int .u64 L) (o := 0) (b := w.heap.size) hb5 (by (simp (disch := omega) [go_sem, *]) <;> rfl)
  have k5_0_1 := keep1 (x := .int .u64 R) (o := 1) (b := w.heap.size) hb5 (by (simp (disch := omega) [go_sem, *]) <;> rfl)
  have z5_1 : w.heap.size + 1 < w5.heap.size := by omega
  have k5_1_0 := keep1 (x := .int .u64 U) (o := 0) (b := w.heap.size + 1) hb5 (by (simp (disch := omega) [go_sem, *]) <;> rfl)
  have k5_1_1 := keep1 (x := .int .u64 A) (o := 1) (b := w.heap.size + 1) hb5 (by (simp (disch := omega) [go_sem, *]) <;> rfl)
  clear k4_0_0 k4_0_1 z4_0 k4_1_0 k4_1_1 z4_1
  go_wp2_with fail
  refine (fixed_true _).mono ?_
  rintro e w6 ⟨rfl, hb6⟩
  have hz6 := hb6.size
  try simp at hz6
  have B6 := (by first | exact blo0 B5 hb6 (by omega) | exact blo1 B5 hb6 (by omega) | exact blo2 B5 hb6 (by omega) | exact blo3 B5 hb6 (by omega) : Below w.heap.size w w6)
  have z6_0 : w.heap.size < w6.heap.size := by omega
  have k6_0_0 := keep1 (x := .int .u64 L) (o := 0) (b := w.heap.size) hb6 (by (simp (disch := omega) [go_sem, *]) <;> rfl)
  have k6_0_1 := keep1 (x := .int .u64 R) (o := 1) (b := w.heap.size) hb6 (by (simp (disch := omega) [go_sem, *]) <;> rfl)
  have z6_1 : w.heap.size + 1 < w6.heap.size := by omega
  have k6_1_0 := keep1 (x := .int .u64 U) (o := 0) (b := w.heap.size + 1) hb6 (by (simp (disch := omega) [go_sem, *]) <;> rfl)
  have k6_1_1 := keep1 (x := .int .u64 A) (o := 1) (b := w.heap.size + 1) hb6 (by (simp (disch := omega) [go_sem, *]) <;> rfl)
  have z6_2 : w5.heap.size < w6.heap.size := by omega
  have k6_2_0 := keep1 (x := .int .u64 N) (o := 0) (b := w5.heap.size) hb6 (by (simp (disch := omega) [go_sem, *]) <;> rfl)
  have k6_2_1 := keep1 (x := .int .u64 (A + T)) (o := 1) (b := w5.heap.size) hb6 (by (simp (disch := omega) [go_sem, *]) <;> rfl)
  clear k5_0_0 k5_0_1 z5_0 k5_1_0 k5_1_1 z5_1
  go_wp2_with fail
  all_goals (go_ret; exact ⟨rfl, B6⟩)
theorem clockLater_walk (l g u a b t m : Int) (w0 : (Lit.int .u64 l).wf = true) (w1 : (Lit.int .u64 g).wf = true) (w2 : (Lit.int .u64 u).wf = true) (w3 : (Lit.int .u64 a).wf = true) (w4 : (Lit.int .u64 b).wf = true) (w5 : (Lit.int .u64 t).wf = true) (w6 : (Lit.int .u64 m).wf = true) (w : World) :
    Calls Try.prog 4 #[.int .u64 l, .int .u64 g, .int .u64 u, .int .u64 a, .int .u64 b, .int .u64 t, .int .u64 m] w fun e w' => e = .returned (.bool true) ∧ Below w.heap.size w w' := by
  have b0 := bounds_u64 w0
  have b1 := bounds_u64 w1
  have b2 := bounds_u64 w2
  have b3 := bounds_u64 w3
  have b4 := bounds_u64 w4
  have b5 := bounds_u64 w5
  have b6 := bounds_u64 w6
  have r0 := Int.emod_nonneg g (show 1 + l % 1048576 + 1 ≠ 0 by omega)
  have r1 := Int.emod_lt_of_pos g (show 0 < 1 + l % 1048576 + 1 by omega)
  by_cases hx : 1 + l % 1048576 ≤ b % 2097152 + t % 2097152
  · exact later_out l g u a b t m _ _ _ _ _ _ _ w rfl rfl rfl rfl rfl rfl rfl b0.1 b1.1 b2.1 b3.1 b4.1 b5.1 b6.1 (by omega) ⟨r0, by omega⟩ (by omega) (by omega) (by omega) (by omega) (by omega) (by simpa using hx) hx
  · exact later_in l g u a b t m _ _ _ _ _ _ _ (min (b % 2097152 + t % 2097152) (1 + l % 1048576 - g % (1 + l % 1048576 + 1))) w rfl rfl rfl rfl rfl rfl rfl b0.1 b1.1 b2.1 b3.1 b4.1 b5.1 b6.1 (by omega) ⟨r0, by omega⟩ (by omega) (by omega) (by omega) (by omega) (by omega) (by simpa using hx) hx (by omega) _ rfl
end Go.Proofs.Ytfapkffdhflliaa
