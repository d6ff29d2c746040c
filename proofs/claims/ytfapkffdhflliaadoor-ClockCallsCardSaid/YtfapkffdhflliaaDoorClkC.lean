/-
  The walk of ClockCalls. Own work.
-/
import Derived.Test.YtfapkffdhflliaaDoorClkR
import Derived.OpenShut
import Derived.Test.YtfapkffdhflliaaDoorQin
namespace Go.Proofs.YtfapkffdhflliaaDoor
open Go.RowKit
set_option linter.unusedVariables false
structure CC (W : World) (q0 q1 : Nat) (l q v n : Int) (x : World) : Prop where
  e : x.cell? ⟨0, 0, none⟩ = some (.iface 58 (.agg #[.pointer (some ⟨1, 28, none⟩)]))
  c0 : x.cell? ⟨q0, 0, none⟩ = some (.int .u64 l)
  c1 : x.cell? ⟨q0, 1, none⟩ = some (.int .u64 q)
  d0 : x.cell? ⟨q1, 0, none⟩ = some (.int .u64 v)
  d1 : x.cell? ⟨q1, 1, none⟩ = some (.int .u64 n)
  below : Below W.heap.size W x
theorem CC.next {W : World} {q0 q1 : Nat} {l q v n : Int} {x y : World} (s : CC W q0 q1 l q v n x) (hb : Below x.heap.size x y) : CC W q0 q1 l q v n y :=
  ⟨keep1 hb s.e, keep1 hb s.c0, keep1 hb s.c1, keep1 hb s.d0, keep1 hb s.d1, bl s.below hb⟩
set_option maxRecDepth 100000 in
set_option maxHeartbeats 8000000 in
theorem calls_in (l q u a b n : Int) (w : World) (hg : w.cell? ⟨0, 0, none⟩ = some (.iface 58 (.agg #[.pointer (some ⟨1, 28, none⟩)])))
    (r0 : 1 ≤ l) (r1 : l ≤ 1099511627776) (r2 : 0 ≤ q) (r3 : q ≤ l) (h0 : 0 ≤ a) (h1 : a ≤ n) (h2 : n ≤ 1099511627776) (h3 : 0 ≤ u) (h4 : u ≤ 1099511627776) (h5 : 0 ≤ b) (h6 : b ≤ 1099511627776) (S : Int) (HS : Hid (S = b + n - a)) (S0 : 0 ≤ S) (hs : S < l) (V : Int) (HV : Hid (V = min S (l - q))) :
    Calls Tryd.prog 3 #[.int .u64 l, .int .u64 q, .int .u64 u, .int .u64 a, .int .u64 b, .int .u64 n] w fun e w' => e = .returned (.bool true) ∧ Below w.heap.size w w' := by
  have zg := inHeap hg
  go_enter Tryd.func3, Tryd.ntmps3
  go_wp2_with fail
  refine (Clk.spent_ok u a b n _ (by omega) (by omega) (by omega) (by omega) (by omega) (by omega) (by omega)).mono ?_
  rintro e w1 ⟨rfl, hb1⟩
  rw [show b + n - a = S by have := HS.out; omega]
  have hz1 := hb1.size
  try simp at hz1
  have B1 := (by first | exact blo0 (Below.refl _ _) hb1 (Nat.le_refl _) | exact blo1 (Below.refl _ _) hb1 (Nat.le_refl _) | exact blo2 (Below.refl _ _) hb1 (Nat.le_refl _) | exact blo3 (Below.refl _ _) hb1 (Nat.le_refl _) : Below w.heap.size w w1)
  have z1_0 : 0 < w1.heap.size := by omega
  have k1_0_0 := keep1 (x := .iface 58 (.agg #[.pointer (some ⟨1, 28, none⟩)])) (o := 0) (b := 0) hb1 (by first | assumption | ((simp (disch := first | omega | (simp; done) | (simp; omega)) [go_sem, *]) <;> rfl))
  have z1_1 : w.heap.size < w1.heap.size := by omega
  have k1_1_0 := keep1 (x := .int .u64 l) (o := 0) (b := w.heap.size) hb1 (by first | assumption | ((simp (disch := first | omega | (simp; done) | (simp; omega)) [go_sem, *]) <;> rfl))
  have k1_1_1 := keep1 (x := .int .u64 q) (o := 1) (b := w.heap.size) hb1 (by first | assumption | ((simp (disch := first | omega | (simp; done) | (simp; omega)) [go_sem, *]) <;> rfl))
  have z1_2 : w.heap.size + 1 < w1.heap.size := by omega
  have k1_2_0 := keep1 (x := .int .u64 u) (o := 0) (b := w.heap.size + 1) hb1 (by first | assumption | ((simp (disch := first | omega | (simp; done) | (simp; omega)) [go_sem, *]) <;> rfl))
  have k1_2_1 := keep1 (x := .int .u64 a) (o := 1) (b := w.heap.size + 1) hb1 (by first | assumption | ((simp (disch := first | omega | (simp; done) | (simp; omega)) [go_sem, *]) <;> rfl))
  go_wp2_with fail
  refine (Ref.spent_ok u a b n _ (by omega) (by omega) (by omega) (by omega) (by omega) (by omega) (by omega)).mono ?_
  rintro e w2 ⟨rfl, hb2⟩
  rw [show b + (n - a) = S by have := HS.out; omega]
  have hz2 := hb2.size
  try simp at hz2
  have B2 := (by first | exact blo0 B1 hb2 (by omega) | exact blo1 B1 hb2 (by omega) | exact blo2 B1 hb2 (by omega) | exact blo3 B1 hb2 (by omega) : Below w.heap.size w w2)
  have z2_0 : 0 < w2.heap.size := by omega
  have k2_0_0 := keep1 (x := .iface 58 (.agg #[.pointer (some ⟨1, 28, none⟩)])) (o := 0) (b := 0) hb2 (by first | assumption | ((simp (disch := first | omega | (simp; done) | (simp; omega)) [go_sem, *]) <;> rfl))
  have z2_1 : w.heap.size < w2.heap.size := by omega
  have k2_1_0 := keep1 (x := .int .u64 l) (o := 0) (b := w.heap.size) hb2 (by first | assumption | ((simp (disch := first | omega | (simp; done) | (simp; omega)) [go_sem, *]) <;> rfl))
  have k2_1_1 := keep1 (x := .int .u64 q) (o := 1) (b := w.heap.size) hb2 (by first | assumption | ((simp (disch := first | omega | (simp; done) | (simp; omega)) [go_sem, *]) <;> rfl))
  have z2_2 : w.heap.size + 1 < w2.heap.size := by omega
  have k2_2_0 := keep1 (x := .int .u64 u) (o := 0) (b := w.heap.size + 1) hb2 (by first | assumption | ((simp (disch := first | omega | (simp; done) | (simp; omega)) [go_sem, *]) <;> rfl))
  have k2_2_1 := keep1 (x := .int .u64 a) (o := 1) (b := w.heap.size + 1) hb2 (by first | assumption | ((simp (disch := first | omega | (simp; done) | (simp; omega)) [go_sem, *]) <;> rfl))
  clear k1_0_0 z1_0 k1_1_0 k1_1_1 z1_1 k1_2_0 k1_2_1 z1_2
  go_wp2_with fail
  refine (Clk.next_ok l q u a b n _ (by omega) (by omega) (by omega) (by omega) (by omega) (by omega) (by omega) (by omega) (by omega) (by omega) (by omega) (by have := HS.out; omega)).mono ?_
  rintro e w3 ⟨rfl, hb3⟩
  rw [show min (b + n - a) (l - q) = V by have := HS.out; have := HV.out; omega]
  have hz3 := hb3.size
  try simp at hz3
  have B3 := (by first | exact blo0 B2 hb3 (by omega) | exact blo1 B2 hb3 (by omega) | exact blo2 B2 hb3 (by omega) | exact blo3 B2 hb3 (by omega) : Below w.heap.size w w3)
  have z3_0 : 0 < w3.heap.size := by omega
  have k3_0_0 := keep1 (x := .iface 58 (.agg #[.pointer (some ⟨1, 28, none⟩)])) (o := 0) (b := 0) hb3 (by first | assumption | ((simp (disch := first | omega | (simp; done) | (simp; omega)) [go_sem, *]) <;> rfl))
  have z3_1 : w.heap.size < w3.heap.size := by omega
  have k3_1_0 := keep1 (x := .int .u64 l) (o := 0) (b := w.heap.size) hb3 (by first | assumption | ((simp (disch := first | omega | (simp; done) | (simp; omega)) [go_sem, *]) <;> rfl))
  have k3_1_1 := keep1 (x := .int .u64 q) (o := 1) (b := w.heap.size) hb3 (by first | assumption | ((simp (disch := first | omega | (simp; done) | (simp; omega)) [go_sem, *]) <;> rfl))
  have z3_2 : w.heap.size + 1 < w3.heap.size := by omega
  have k3_2_0 := keep1 (x := .int .u64 u) (o := 0) (b := w.heap.size + 1) hb3 (by first | assumption | ((simp (disch := first | omega | (simp; done) | (simp; omega)) [go_sem, *]) <;> rfl))
  have k3_2_1 := keep1 (x := .int .u64 a) (o := 1) (b := w.heap.size + 1) hb3 (by first | assumption | ((simp (disch := first | omega | (simp; done) | (simp; omega)) [go_sem, *]) <;> rfl))
  clear k2_0_0 z2_0 k2_1_0 k2_1_1 z2_1 k2_2_0 k2_2_1 z2_2
  go_wp2_with fail
  refine (Ref.next_ok l q u a b n _ (by omega) (by omega) (by omega) (by omega) (by omega) (by omega) (by omega) (by omega) (by omega) (by omega) (by omega) (by have := HS.out; omega)).mono ?_
  rintro e w4 ⟨rfl, hb4⟩
  rw [show min (b + n - a) (l - q) = V by have := HS.out; have := HV.out; omega]
  have hz4 := hb4.size
  try simp at hz4
  have B4 := (by first | exact blo0 B3 hb4 (by omega) | exact blo1 B3 hb4 (by omega) | exact blo2 B3 hb4 (by omega) | exact blo3 B3 hb4 (by omega) : Below w.heap.size w w4)
  have z4_0 : 0 < w4.heap.size := by omega
  have k4_0_0 := keep1 (x := .iface 58 (.agg #[.pointer (some ⟨1, 28, none⟩)])) (o := 0) (b := 0) hb4 (by first | assumption | ((simp (disch := first | omega | (simp; done) | (simp; omega)) [go_sem, *]) <;> rfl))
  have z4_1 : w.heap.size < w4.heap.size := by omega
  have k4_1_0 := keep1 (x := .int .u64 l) (o := 0) (b := w.heap.size) hb4 (by first | assumption | ((simp (disch := first | omega | (simp; done) | (simp; omega)) [go_sem, *]) <;> rfl))
  have k4_1_1 := keep1 (x := .int .u64 q) (o := 1) (b := w.heap.size) hb4 (by first | assumption | ((simp (disch := first | omega | (simp; done) | (simp; omega)) [go_sem, *]) <;> rfl))
  have z4_2 : w.heap.size + 1 < w4.heap.size := by omega
  have k4_2_0 := keep1 (x := .int .u64 u) (o := 0) (b := w.heap.size + 1) hb4 (by first | assumption | ((simp (disch := first | omega | (simp; done) | (simp; omega)) [go_sem, *]) <;> rfl))
  have k4_2_1 := keep1 (x := .int .u64 a) (o := 1) (b := w.heap.size + 1) hb4 (by first | assumption | ((simp (disch := first | omega | (simp; done) | (simp; omega)) [go_sem, *]) <;> rfl))
  have z4_3 : w3.heap.size < w4.heap.size := by omega
  have k4_3_0 := keep1 (x := .int .u64 V) (o := 0) (b := w3.heap.size) hb4 (by first | assumption | ((simp (disch := first | omega | (simp; done) | (simp; omega)) [go_sem, *]) <;> rfl))
  have k4_3_1 := keep1 (x := .int .u64 n) (o := 1) (b := w3.heap.size) hb4 (by first | assumption | ((simp (disch := first | omega | (simp; done) | (simp; omega)) [go_sem, *]) <;> rfl))
  clear k3_0_0 z3_0 k3_1_0 k3_1_1 z3_1 k3_2_0 k3_2_1 z3_2
  go_wp2_with fail
  refine (Clk.over_ok l q u a b n _ (by omega) (by omega) (by omega) (by omega) (by omega) (by omega) (by omega) (by omega) (by omega) (by omega)).mono ?_
  rintro e w5 ⟨rfl, hb5⟩
  rw [show decide (l ≤ b + n - a) = false by have := HS.out; simp; omega]
  have hz5 := hb5.size
  try simp at hz5
  have B5 := (by first | exact blo0 B4 hb5 (by omega) | exact blo1 B4 hb5 (by omega) | exact blo2 B4 hb5 (by omega) | exact blo3 B4 hb5 (by omega) : Below w.heap.size w w5)
  have z5_0 : 0 < w5.heap.size := by omega
  have k5_0_0 := keep1 (x := .iface 58 (.agg #[.pointer (some ⟨1, 28, none⟩)])) (o := 0) (b := 0) hb5 (by first | assumption | ((simp (disch := first | omega | (simp; done) | (simp; omega)) [go_sem, *]) <;> rfl))
  have z5_1 : w.heap.size < w5.heap.size := by omega
  have k5_1_0 := keep1 (x := .int .u64 l) (o := 0) (b := w.heap.size) hb5 (by first | assumption | ((simp (disch := first | omega | (simp; done) | (simp; omega)) [go_sem, *]) <;> rfl))
  have k5_1_1 := keep1 (x := .int .u64 q) (o := 1) (b := w.heap.size) hb5 (by first | assumption | ((simp (disch := first | omega | (simp; done) | (simp; omega)) [go_sem, *]) <;> rfl))
  have z5_2 : w.heap.size + 1 < w5.heap.size := by omega
  have k5_2_0 := keep1 (x := .int .u64 u) (o := 0) (b := w.heap.size + 1) hb5 (by first | assumption | ((simp (disch := first | omega | (simp; done) | (simp; omega)) [go_sem, *]) <;> rfl))
  have k5_2_1 := keep1 (x := .int .u64 a) (o := 1) (b := w.heap.size + 1) hb5 (by first | assumption | ((simp (disch := first | omega | (simp; done) | (simp; omega)) [go_sem, *]) <;> rfl))
  have z5_3 : w3.heap.size < w5.heap.size := by omega
  have k5_3_0 := keep1 (x := .int .u64 V) (o := 0) (b := w3.heap.size) hb5 (by first | assumption | ((simp (disch := first | omega | (simp; done) | (simp; omega)) [go_sem, *]) <;> rfl))
  have k5_3_1 := keep1 (x := .int .u64 n) (o := 1) (b := w3.heap.size) hb5 (by first | assumption | ((simp (disch := first | omega | (simp; done) | (simp; omega)) [go_sem, *]) <;> rfl))
  clear k4_0_0 z4_0 k4_1_0 k4_1_1 z4_1 k4_2_0 k4_2_1 z4_2 k4_3_0 k4_3_1 z4_3
  go_wp2_with fail
  have s : CC w w.heap.size w3.heap.size l q (V) (n) w5.drew := ⟨k5_0_0, k5_1_0, k5_1_1, k5_3_0, k5_3_1, B5.drew⟩
  have S5 := Lib.hid s
  have NE : Nonempty (Wd (CC w w.heap.size w3.heap.size l q (V) (n))) := ⟨⟨_, s⟩⟩
  clear s hb1 hb2 hb3 hb4 hb5 B1 B2 B3 B4 B5 hz1 hz2 hz3 hz4 hz5 hg zg k5_0_0 z5_0 k5_1_0 k5_1_1 z5_1 k5_2_0 k5_2_1 z5_2 k5_3_0 k5_3_1 z5_3
  have j0 : ∀ s : Wd (CC w w.heap.size w3.heap.size l q (V) (n)), s.val.cell? ⟨w.heap.size, 0, none⟩ = some (.int .u64 l) := fun s => s.ok.c0
  have j1 : ∀ s : Wd (CC w w.heap.size w3.heap.size l q (V) (n)), s.val.cell? ⟨w.heap.size, 1, none⟩ = some (.int .u64 q) := fun s => s.ok.c1
  have j2 : ∀ s : Wd (CC w w.heap.size w3.heap.size l q (V) (n)), s.val.cell? ⟨w3.heap.size, 0, none⟩ = some (.int .u64 V) := fun s => s.ok.d0
  have j3 : ∀ s : Wd (CC w w.heap.size w3.heap.size l q (V) (n)), s.val.cell? ⟨w3.heap.size, 1, none⟩ = some (.int .u64 n) := fun s => s.ok.d1
  have QF := Lib.hid (fun s : Wd (CC w w.heap.size w3.heap.size l q (V) (n)) => in_of_below s (fun y hb => s.ok.next hb) (fixed_true s.val))
  have QC := Lib.hid (fun s : Wd (CC w w.heap.size w3.heap.size l q (V) (n)) => in_of_below s (fun y hb => s.ok.next hb) (Clk.check_ok l q s.val (by omega) (by omega) (by omega)))
  have QU := Lib.hid (fun s : Wd (CC w w.heap.size w3.heap.size l q (V) (n)) => in_of_below s (fun y hb => s.ok.next hb) (Ref.rules_ok l q s.val (by omega) (by omega) (by omega)))
  have QN := Lib.hid (fun s : Wd (CC w w.heap.size w3.heap.size l q (V) (n)) => in_of_below s (fun y hb => s.ok.next hb) (number_nil s.val))
  refine wp_region_in (CC w w.heap.size w3.heap.size l q (V) (n)) (by kernel_rfl) (by kernel_rfl) S5.out ?_
  repeat (go_big_quiet_step (first
      | with_reducible exact QF.out _
      | with_reducible exact QC.out _
      | with_reducible exact QU.out _
      | with_reducible exact QN.out _))
  clear j0 j1 j2 j3 QF QC QU QN
  refine wpQuiet_nil ?_
  rintro y ⟨⟨_, s⟩, rfl⟩
  go_wp2_with fail
  go_ret
  exact ⟨rfl, s.below⟩
set_option maxRecDepth 100000 in
set_option maxHeartbeats 8000000 in
theorem calls_out (l q u a b n : Int) (w : World) (hg : w.cell? ⟨0, 0, none⟩ = some (.iface 58 (.agg #[.pointer (some ⟨1, 28, none⟩)])))
    (r0 : 1 ≤ l) (r1 : l ≤ 1099511627776) (r2 : 0 ≤ q) (r3 : q ≤ l) (h0 : 0 ≤ a) (h1 : a ≤ n) (h2 : n ≤ 1099511627776) (h3 : 0 ≤ u) (h4 : u ≤ 1099511627776) (h5 : 0 ≤ b) (h6 : b ≤ 1099511627776) (S : Int) (HS : Hid (S = b + n - a)) (S0 : 0 ≤ S) (hs : l ≤ S) :
    Calls Tryd.prog 3 #[.int .u64 l, .int .u64 q, .int .u64 u, .int .u64 a, .int .u64 b, .int .u64 n] w fun e w' => e = .returned (.bool true) ∧ Below w.heap.size w w' := by
  have zg := inHeap hg
  go_enter Tryd.func3, Tryd.ntmps3
  go_wp2_with fail
  refine (Clk.spent_ok u a b n _ (by omega) (by omega) (by omega) (by omega) (by omega) (by omega) (by omega)).mono ?_
  rintro e w1 ⟨rfl, hb1⟩
  rw [show b + n - a = S by have := HS.out; omega]
  have hz1 := hb1.size
  try simp at hz1
  have B1 := (by first | exact blo0 (Below.refl _ _) hb1 (Nat.le_refl _) | exact blo1 (Below.refl _ _) hb1 (Nat.le_refl _) | exact blo2 (Below.refl _ _) hb1 (Nat.le_refl _) | exact blo3 (Below.refl _ _) hb1 (Nat.le_refl _) : Below w.heap.size w w1)
  have z1_0 : 0 < w1.heap.size := by omega
  have k1_0_0 := keep1 (x := .iface 58 (.agg #[.pointer (some ⟨1, 28, none⟩)])) (o := 0) (b := 0) hb1 (by first | assumption | ((simp (disch := first | omega | (simp; done) | (simp; omega)) [go_sem, *]) <;> rfl))
  have z1_1 : w.heap.size < w1.heap.size := by omega
  have k1_1_0 := keep1 (x := .int .u64 l) (o := 0) (b := w.heap.size) hb1 (by first | assumption | ((simp (disch := first | omega | (simp; done) | (simp; omega)) [go_sem, *]) <;> rfl))
  have k1_1_1 := keep1 (x := .int .u64 q) (o := 1) (b := w.heap.size) hb1 (by first | assumption | ((simp (disch := first | omega | (simp; done) | (simp; omega)) [go_sem, *]) <;> rfl))
  have z1_2 : w.heap.size + 1 < w1.heap.size := by omega
  have k1_2_0 := keep1 (x := .int .u64 u) (o := 0) (b := w.heap.size + 1) hb1 (by first | assumption | ((simp (disch := first | omega | (simp; done) | (simp; omega)) [go_sem, *]) <;> rfl))
  have k1_2_1 := keep1 (x := .int .u64 a) (o := 1) (b := w.heap.size + 1) hb1 (by first | assumption | ((simp (disch := first | omega | (simp; done) | (simp; omega)) [go_sem, *]) <;> rfl))
  go_wp2_with fail
  refine (Ref.spent_ok u a b n _ (by omega) (by omega) (by omega) (by omega) (by omega) (by omega) (by omega)).mono ?_
  rintro e w2 ⟨rfl, hb2⟩
  rw [show b + (n - a) = S by have := HS.out; omega]
  have hz2 := hb2.size
  try simp at hz2
  have B2 := (by first | exact blo0 B1 hb2 (by omega) | exact blo1 B1 hb2 (by omega) | exact blo2 B1 hb2 (by omega) | exact blo3 B1 hb2 (by omega) : Below w.heap.size w w2)
  have z2_0 : 0 < w2.heap.size := by omega
  have k2_0_0 := keep1 (x := .iface 58 (.agg #[.pointer (some ⟨1, 28, none⟩)])) (o := 0) (b := 0) hb2 (by first | assumption | ((simp (disch := first | omega | (simp; done) | (simp; omega)) [go_sem, *]) <;> rfl))
  have z2_1 : w.heap.size < w2.heap.size := by omega
  have k2_1_0 := keep1 (x := .int .u64 l) (o := 0) (b := w.heap.size) hb2 (by first | assumption | ((simp (disch := first | omega | (simp; done) | (simp; omega)) [go_sem, *]) <;> rfl))
  have k2_1_1 := keep1 (x := .int .u64 q) (o := 1) (b := w.heap.size) hb2 (by first | assumption | ((simp (disch := first | omega | (simp; done) | (simp; omega)) [go_sem, *]) <;> rfl))
  have z2_2 : w.heap.size + 1 < w2.heap.size := by omega
  have k2_2_0 := keep1 (x := .int .u64 u) (o := 0) (b := w.heap.size + 1) hb2 (by first | assumption | ((simp (disch := first | omega | (simp; done) | (simp; omega)) [go_sem, *]) <;> rfl))
  have k2_2_1 := keep1 (x := .int .u64 a) (o := 1) (b := w.heap.size + 1) hb2 (by first | assumption | ((simp (disch := first | omega | (simp; done) | (simp; omega)) [go_sem, *]) <;> rfl))
  clear k1_0_0 z1_0 k1_1_0 k1_1_1 z1_1 k1_2_0 k1_2_1 z1_2
  go_wp2_with fail
  refine (Clk.next_out l q u a b n _ (by omega) (by omega) (by omega) (by omega) (by omega) (by omega) (by omega) (by omega) (by omega) (by omega) (by have := HS.out; omega)).mono ?_
  rintro e w3 ⟨rfl, hb3⟩
  have hz3 := hb3.size
  try simp at hz3
  have B3 := (by first | exact blo0 B2 hb3 (by omega) | exact blo1 B2 hb3 (by omega) | exact blo2 B2 hb3 (by omega) | exact blo3 B2 hb3 (by omega) : Below w.heap.size w w3)
  have z3_0 : 0 < w3.heap.size := by omega
  have k3_0_0 := keep1 (x := .iface 58 (.agg #[.pointer (some ⟨1, 28, none⟩)])) (o := 0) (b := 0) hb3 (by first | assumption | ((simp (disch := first | omega | (simp; done) | (simp; omega)) [go_sem, *]) <;> rfl))
  have z3_1 : w.heap.size < w3.heap.size := by omega
  have k3_1_0 := keep1 (x := .int .u64 l) (o := 0) (b := w.heap.size) hb3 (by first | assumption | ((simp (disch := first | omega | (simp; done) | (simp; omega)) [go_sem, *]) <;> rfl))
  have k3_1_1 := keep1 (x := .int .u64 q) (o := 1) (b := w.heap.size) hb3 (by first | assumption | ((simp (disch := first | omega | (simp; done) | (simp; omega)) [go_sem, *]) <;> rfl))
  have z3_2 : w.heap.size + 1 < w3.heap.size := by omega
  have k3_2_0 := keep1 (x := .int .u64 u) (o := 0) (b := w.heap.size + 1) hb3 (by first | assumption | ((simp (disch := first | omega | (simp; done) | (simp; omega)) [go_sem, *]) <;> rfl))
  have k3_2_1 := keep1 (x := .int .u64 a) (o := 1) (b := w.heap.size + 1) hb3 (by first | assumption | ((simp (disch := first | omega | (simp; done) | (simp; omega)) [go_sem, *]) <;> rfl))
  clear k2_0_0 z2_0 k2_1_0 k2_1_1 z2_1 k2_2_0 k2_2_1 z2_2
  go_wp2_with fail
  refine (Ref.next_out l q u a b n _ (by omega) (by omega) (by omega) (by omega) (by omega) (by omega) (by omega) (by omega) (by omega) (by omega) (by have := HS.out; omega)).mono ?_
  rintro e w4 ⟨rfl, hb4⟩
  have hz4 := hb4.size
  try simp at hz4
  have B4 := (by first | exact blo0 B3 hb4 (by omega) | exact blo1 B3 hb4 (by omega) | exact blo2 B3 hb4 (by omega) | exact blo3 B3 hb4 (by omega) : Below w.heap.size w w4)
  have z4_0 : 0 < w4.heap.size := by omega
  have k4_0_0 := keep1 (x := .iface 58 (.agg #[.pointer (some ⟨1, 28, none⟩)])) (o := 0) (b := 0) hb4 (by first | assumption | ((simp (disch := first | omega | (simp; done) | (simp; omega)) [go_sem, *]) <;> rfl))
  have z4_1 : w.heap.size < w4.heap.size := by omega
  have k4_1_0 := keep1 (x := .int .u64 l) (o := 0) (b := w.heap.size) hb4 (by first | assumption | ((simp (disch := first | omega | (simp; done) | (simp; omega)) [go_sem, *]) <;> rfl))
  have k4_1_1 := keep1 (x := .int .u64 q) (o := 1) (b := w.heap.size) hb4 (by first | assumption | ((simp (disch := first | omega | (simp; done) | (simp; omega)) [go_sem, *]) <;> rfl))
  have z4_2 : w.heap.size + 1 < w4.heap.size := by omega
  have k4_2_0 := keep1 (x := .int .u64 u) (o := 0) (b := w.heap.size + 1) hb4 (by first | assumption | ((simp (disch := first | omega | (simp; done) | (simp; omega)) [go_sem, *]) <;> rfl))
  have k4_2_1 := keep1 (x := .int .u64 a) (o := 1) (b := w.heap.size + 1) hb4 (by first | assumption | ((simp (disch := first | omega | (simp; done) | (simp; omega)) [go_sem, *]) <;> rfl))
  have z4_3 : w3.heap.size < w4.heap.size := by omega
  have k4_3_0 := keep1 (x := .int .u64 0) (o := 0) (b := w3.heap.size) hb4 (by first | assumption | ((simp (disch := first | omega | (simp; done) | (simp; omega)) [go_sem, *]) <;> rfl))
  have k4_3_1 := keep1 (x := .int .u64 0) (o := 1) (b := w3.heap.size) hb4 (by first | assumption | ((simp (disch := first | omega | (simp; done) | (simp; omega)) [go_sem, *]) <;> rfl))
  clear k3_0_0 z3_0 k3_1_0 k3_1_1 z3_1 k3_2_0 k3_2_1 z3_2
  go_wp2_with fail
  refine (Clk.over_ok l q u a b n _ (by omega) (by omega) (by omega) (by omega) (by omega) (by omega) (by omega) (by omega) (by omega) (by omega)).mono ?_
  rintro e w5 ⟨rfl, hb5⟩
  rw [show decide (l ≤ b + n - a) = true by have := HS.out; simp; omega]
  have hz5 := hb5.size
  try simp at hz5
  have B5 := (by first | exact blo0 B4 hb5 (by omega) | exact blo1 B4 hb5 (by omega) | exact blo2 B4 hb5 (by omega) | exact blo3 B4 hb5 (by omega) : Below w.heap.size w w5)
  have z5_0 : 0 < w5.heap.size := by omega
  have k5_0_0 := keep1 (x := .iface 58 (.agg #[.pointer (some ⟨1, 28, none⟩)])) (o := 0) (b := 0) hb5 (by first | assumption | ((simp (disch := first | omega | (simp; done) | (simp; omega)) [go_sem, *]) <;> rfl))
  have z5_1 : w.heap.size < w5.heap.size := by omega
  have k5_1_0 := keep1 (x := .int .u64 l) (o := 0) (b := w.heap.size) hb5 (by first | assumption | ((simp (disch := first | omega | (simp; done) | (simp; omega)) [go_sem, *]) <;> rfl))
  have k5_1_1 := keep1 (x := .int .u64 q) (o := 1) (b := w.heap.size) hb5 (by first | assumption | ((simp (disch := first | omega | (simp; done) | (simp; omega)) [go_sem, *]) <;> rfl))
  have z5_2 : w.heap.size + 1 < w5.heap.size := by omega
  have k5_2_0 := keep1 (x := .int .u64 u) (o := 0) (b := w.heap.size + 1) hb5 (by first | assumption | ((simp (disch := first | omega | (simp; done) | (simp; omega)) [go_sem, *]) <;> rfl))
  have k5_2_1 := keep1 (x := .int .u64 a) (o := 1) (b := w.heap.size + 1) hb5 (by first | assumption | ((simp (disch := first | omega | (simp; done) | (simp; omega)) [go_sem, *]) <;> rfl))
  have z5_3 : w3.heap.size < w5.heap.size := by omega
  have k5_3_0 := keep1 (x := .int .u64 0) (o := 0) (b := w3.heap.size) hb5 (by first | assumption | ((simp (disch := first | omega | (simp; done) | (simp; omega)) [go_sem, *]) <;> rfl))
  have k5_3_1 := keep1 (x := .int .u64 0) (o := 1) (b := w3.heap.size) hb5 (by first | assumption | ((simp (disch := first | omega | (simp; done) | (simp; omega)) [go_sem, *]) <;> rfl))
  clear k4_0_0 z4_0 k4_1_0 k4_1_1 z4_1 k4_2_0 k4_2_1 z4_2 k4_3_0 k4_3_1 z4_3
  go_wp2_with fail
  have s : CC w w.heap.size w3.heap.size l q (0) (0) w5.drew := ⟨k5_0_0, k5_1_0, k5_1_1, k5_3_0, k5_3_1, B5.drew⟩
  have S5 := Lib.hid s
  have NE : Nonempty (Wd (CC w w.heap.size w3.heap.size l q (0) (0))) := ⟨⟨_, s⟩⟩
  clear s hb1 hb2 hb3 hb4 hb5 B1 B2 B3 B4 B5 hz1 hz2 hz3 hz4 hz5 hg zg k5_0_0 z5_0 k5_1_0 k5_1_1 z5_1 k5_2_0 k5_2_1 z5_2 k5_3_0 k5_3_1 z5_3
  have j0 : ∀ s : Wd (CC w w.heap.size w3.heap.size l q (0) (0)), s.val.cell? ⟨w.heap.size, 0, none⟩ = some (.int .u64 l) := fun s => s.ok.c0
  have j1 : ∀ s : Wd (CC w w.heap.size w3.heap.size l q (0) (0)), s.val.cell? ⟨w.heap.size, 1, none⟩ = some (.int .u64 q) := fun s => s.ok.c1
  have j2 : ∀ s : Wd (CC w w.heap.size w3.heap.size l q (0) (0)), s.val.cell? ⟨w3.heap.size, 0, none⟩ = some (.int .u64 0) := fun s => s.ok.d0
  have j3 : ∀ s : Wd (CC w w.heap.size w3.heap.size l q (0) (0)), s.val.cell? ⟨w3.heap.size, 1, none⟩ = some (.int .u64 0) := fun s => s.ok.d1
  have QF := Lib.hid (fun s : Wd (CC w w.heap.size w3.heap.size l q (0) (0)) => in_of_below s (fun y hb => s.ok.next hb) (fixed_true s.val))
  have QC := Lib.hid (fun s : Wd (CC w w.heap.size w3.heap.size l q (0) (0)) => in_of_below s (fun y hb => s.ok.next hb) (Clk.check_ok l q s.val (by omega) (by omega) (by omega)))
  have QU := Lib.hid (fun s : Wd (CC w w.heap.size w3.heap.size l q (0) (0)) => in_of_below s (fun y hb => s.ok.next hb) (Ref.rules_ok l q s.val (by omega) (by omega) (by omega)))
  have QN := Lib.hid (fun s : Wd (CC w w.heap.size w3.heap.size l q (0) (0)) => in_of_below s (fun y hb => s.ok.next hb) (number_nil s.val))
  have Q42 := Lib.hid (fun s : Wd (CC w w.heap.size w3.heap.size l q (0) (0)) => in_of_below s (fun y hb => s.ok.next hb) (number_num 42 s.val s.ok.e))
  refine wp_region_in (CC w w.heap.size w3.heap.size l q (0) (0)) (by kernel_rfl) (by kernel_rfl) S5.out ?_
  repeat (go_big_quiet_step (first
      | with_reducible exact QF.out _
      | with_reducible exact QC.out _
      | with_reducible exact QU.out _
      | with_reducible exact QN.out _
      | with_reducible exact Q42.out _))
  clear j0 j1 j2 j3 QF QC QU QN Q42
  refine wpQuiet_nil ?_
  rintro y ⟨⟨_, s⟩, rfl⟩
  go_wp2_with fail
  go_ret
  exact ⟨rfl, s.below⟩
set_option maxRecDepth 100000 in
set_option maxHeartbeats 8000000 in
theorem calls_far (l q u a b n : Int) (w : World) (hg : w.cell? ⟨0, 0, none⟩ = some (.iface 58 (.agg #[.pointer (some ⟨1, 28, none⟩)])))
    (r0 : 1 ≤ l) (r1 : l ≤ 1099511627776) (r2 : 0 ≤ q) (r3 : q ≤ l) (HF : Hid (n < a ∨ 1099511627776 < n ∨ 1099511627776 < u ∨ 1099511627776 < b)) :
    Calls Tryd.prog 3 #[.int .u64 l, .int .u64 q, .int .u64 u, .int .u64 a, .int .u64 b, .int .u64 n] w fun e w' => e = .returned (.bool true) ∧ Below w.heap.size w w' := by
  have zg := inHeap hg
  go_enter Tryd.func3, Tryd.ntmps3
  go_wp2_with fail
  refine (Clk.spent_bad u a b n _ HF.out).mono ?_
  rintro e w1 ⟨rfl, hb1⟩
  have hz1 := hb1.size
  try simp at hz1
  have B1 := (by first | exact blo0 (Below.refl _ _) hb1 (Nat.le_refl _) | exact blo1 (Below.refl _ _) hb1 (Nat.le_refl _) | exact blo2 (Below.refl _ _) hb1 (Nat.le_refl _) | exact blo3 (Below.refl _ _) hb1 (Nat.le_refl _) : Below w.heap.size w w1)
  have z1_0 : 0 < w1.heap.size := by omega
  have k1_0_0 := keep1 (x := .iface 58 (.agg #[.pointer (some ⟨1, 28, none⟩)])) (o := 0) (b := 0) hb1 (by first | assumption | ((simp (disch := first | omega | (simp; done) | (simp; omega)) [go_sem, *]) <;> rfl))
  have z1_1 : w.heap.size < w1.heap.size := by omega
  have k1_1_0 := keep1 (x := .int .u64 l) (o := 0) (b := w.heap.size) hb1 (by first | assumption | ((simp (disch := first | omega | (simp; done) | (simp; omega)) [go_sem, *]) <;> rfl))
  have k1_1_1 := keep1 (x := .int .u64 q) (o := 1) (b := w.heap.size) hb1 (by first | assumption | ((simp (disch := first | omega | (simp; done) | (simp; omega)) [go_sem, *]) <;> rfl))
  have z1_2 : w.heap.size + 1 < w1.heap.size := by omega
  have k1_2_0 := keep1 (x := .int .u64 u) (o := 0) (b := w.heap.size + 1) hb1 (by first | assumption | ((simp (disch := first | omega | (simp; done) | (simp; omega)) [go_sem, *]) <;> rfl))
  have k1_2_1 := keep1 (x := .int .u64 a) (o := 1) (b := w.heap.size + 1) hb1 (by first | assumption | ((simp (disch := first | omega | (simp; done) | (simp; omega)) [go_sem, *]) <;> rfl))
  go_wp2_with fail
  refine (Ref.spent_bad u a b n _ HF.out).mono ?_
  rintro e w2 ⟨rfl, hb2⟩
  have hz2 := hb2.size
  try simp at hz2
  have B2 := (by first | exact blo0 B1 hb2 (by omega) | exact blo1 B1 hb2 (by omega) | exact blo2 B1 hb2 (by omega) | exact blo3 B1 hb2 (by omega) : Below w.heap.size w w2)
  have z2_0 : 0 < w2.heap.size := by omega
  have k2_0_0 := keep1 (x := .iface 58 (.agg #[.pointer (some ⟨1, 28, none⟩)])) (o := 0) (b := 0) hb2 (by first | assumption | ((simp (disch := first | omega | (simp; done) | (simp; omega)) [go_sem, *]) <;> rfl))
  have z2_1 : w.heap.size < w2.heap.size := by omega
  have k2_1_0 := keep1 (x := .int .u64 l) (o := 0) (b := w.heap.size) hb2 (by first | assumption | ((simp (disch := first | omega | (simp; done) | (simp; omega)) [go_sem, *]) <;> rfl))
  have k2_1_1 := keep1 (x := .int .u64 q) (o := 1) (b := w.heap.size) hb2 (by first | assumption | ((simp (disch := first | omega | (simp; done) | (simp; omega)) [go_sem, *]) <;> rfl))
  have z2_2 : w.heap.size + 1 < w2.heap.size := by omega
  have k2_2_0 := keep1 (x := .int .u64 u) (o := 0) (b := w.heap.size + 1) hb2 (by first | assumption | ((simp (disch := first | omega | (simp; done) | (simp; omega)) [go_sem, *]) <;> rfl))
  have k2_2_1 := keep1 (x := .int .u64 a) (o := 1) (b := w.heap.size + 1) hb2 (by first | assumption | ((simp (disch := first | omega | (simp; done) | (simp; omega)) [go_sem, *]) <;> rfl))
  clear k1_0_0 z1_0 k1_1_0 k1_1_1 z1_1 k1_2_0 k1_2_1 z1_2
  go_wp2_with fail
  refine (Clk.next_far l q u a b n _ (by omega) (by omega) (by omega) HF.out).mono ?_
  rintro e w3 ⟨rfl, hb3⟩
  have hz3 := hb3.size
  try simp at hz3
  have B3 := (by first | exact blo0 B2 hb3 (by omega) | exact blo1 B2 hb3 (by omega) | exact blo2 B2 hb3 (by omega) | exact blo3 B2 hb3 (by omega) : Below w.heap.size w w3)
  have z3_0 : 0 < w3.heap.size := by omega
  have k3_0_0 := keep1 (x := .iface 58 (.agg #[.pointer (some ⟨1, 28, none⟩)])) (o := 0) (b := 0) hb3 (by first | assumption | ((simp (disch := first | omega | (simp; done) | (simp; omega)) [go_sem, *]) <;> rfl))
  have z3_1 : w.heap.size < w3.heap.size := by omega
  have k3_1_0 := keep1 (x := .int .u64 l) (o := 0) (b := w.heap.size) hb3 (by first | assumption | ((simp (disch := first | omega | (simp; done) | (simp; omega)) [go_sem, *]) <;> rfl))
  have k3_1_1 := keep1 (x := .int .u64 q) (o := 1) (b := w.heap.size) hb3 (by first | assumption | ((simp (disch := first | omega | (simp; done) | (simp; omega)) [go_sem, *]) <;> rfl))
  have z3_2 : w.heap.size + 1 < w3.heap.size := by omega
  have k3_2_0 := keep1 (x := .int .u64 u) (o := 0) (b := w.heap.size + 1) hb3 (by first | assumption | ((simp (disch := first | omega | (simp; done) | (simp; omega)) [go_sem, *]) <;> rfl))
  have k3_2_1 := keep1 (x := .int .u64 a) (o := 1) (b := w.heap.size + 1) hb3 (by first | assumption | ((simp (disch := first | omega | (simp; done) | (simp; omega)) [go_sem, *]) <;> rfl))
  clear k2_0_0 z2_0 k2_1_0 k2_1_1 z2_1 k2_2_0 k2_2_1 z2_2
  go_wp2_with fail
  refine (Ref.next_far l q u a b n _ (by omega) (by omega) (by omega) HF.out).mono ?_
  rintro e w4 ⟨rfl, hb4⟩
  have hz4 := hb4.size
  try simp at hz4
  have B4 := (by first | exact blo0 B3 hb4 (by omega) | exact blo1 B3 hb4 (by omega) | exact blo2 B3 hb4 (by omega) | exact blo3 B3 hb4 (by omega) : Below w.heap.size w w4)
  have z4_0 : 0 < w4.heap.size := by omega
  have k4_0_0 := keep1 (x := .iface 58 (.agg #[.pointer (some ⟨1, 28, none⟩)])) (o := 0) (b := 0) hb4 (by first | assumption | ((simp (disch := first | omega | (simp; done) | (simp; omega)) [go_sem, *]) <;> rfl))
  have z4_1 : w.heap.size < w4.heap.size := by omega
  have k4_1_0 := keep1 (x := .int .u64 l) (o := 0) (b := w.heap.size) hb4 (by first | assumption | ((simp (disch := first | omega | (simp; done) | (simp; omega)) [go_sem, *]) <;> rfl))
  have k4_1_1 := keep1 (x := .int .u64 q) (o := 1) (b := w.heap.size) hb4 (by first | assumption | ((simp (disch := first | omega | (simp; done) | (simp; omega)) [go_sem, *]) <;> rfl))
  have z4_2 : w.heap.size + 1 < w4.heap.size := by omega
  have k4_2_0 := keep1 (x := .int .u64 u) (o := 0) (b := w.heap.size + 1) hb4 (by first | assumption | ((simp (disch := first | omega | (simp; done) | (simp; omega)) [go_sem, *]) <;> rfl))
  have k4_2_1 := keep1 (x := .int .u64 a) (o := 1) (b := w.heap.size + 1) hb4 (by first | assumption | ((simp (disch := first | omega | (simp; done) | (simp; omega)) [go_sem, *]) <;> rfl))
  have z4_3 : w3.heap.size < w4.heap.size := by omega
  have k4_3_0 := keep1 (x := .int .u64 0) (o := 0) (b := w3.heap.size) hb4 (by first | assumption | ((simp (disch := first | omega | (simp; done) | (simp; omega)) [go_sem, *]) <;> rfl))
  have k4_3_1 := keep1 (x := .int .u64 0) (o := 1) (b := w3.heap.size) hb4 (by first | assumption | ((simp (disch := first | omega | (simp; done) | (simp; omega)) [go_sem, *]) <;> rfl))
  clear k3_0_0 z3_0 k3_1_0 k3_1_1 z3_1 k3_2_0 k3_2_1 z3_2
  go_wp2_with fail
  refine (Clk.over_far l q u a b n _ (by omega) (by omega) (by omega) HF.out).mono ?_
  rintro e w5 ⟨rfl, hb5⟩
  have hz5 := hb5.size
  try simp at hz5
  have B5 := (by first | exact blo0 B4 hb5 (by omega) | exact blo1 B4 hb5 (by omega) | exact blo2 B4 hb5 (by omega) | exact blo3 B4 hb5 (by omega) : Below w.heap.size w w5)
  have z5_0 : 0 < w5.heap.size := by omega
  have k5_0_0 := keep1 (x := .iface 58 (.agg #[.pointer (some ⟨1, 28, none⟩)])) (o := 0) (b := 0) hb5 (by first | assumption | ((simp (disch := first | omega | (simp; done) | (simp; omega)) [go_sem, *]) <;> rfl))
  have z5_1 : w.heap.size < w5.heap.size := by omega
  have k5_1_0 := keep1 (x := .int .u64 l) (o := 0) (b := w.heap.size) hb5 (by first | assumption | ((simp (disch := first | omega | (simp; done) | (simp; omega)) [go_sem, *]) <;> rfl))
  have k5_1_1 := keep1 (x := .int .u64 q) (o := 1) (b := w.heap.size) hb5 (by first | assumption | ((simp (disch := first | omega | (simp; done) | (simp; omega)) [go_sem, *]) <;> rfl))
  have z5_2 : w.heap.size + 1 < w5.heap.size := by omega
  have k5_2_0 := keep1 (x := .int .u64 u) (o := 0) (b := w.heap.size + 1) hb5 (by first | assumption | ((simp (disch := first | omega | (simp; done) | (simp; omega)) [go_sem, *]) <;> rfl))
  have k5_2_1 := keep1 (x := .int .u64 a) (o := 1) (b := w.heap.size + 1) hb5 (by first | assumption | ((simp (disch := first | omega | (simp; done) | (simp; omega)) [go_sem, *]) <;> rfl))
  have z5_3 : w3.heap.size < w5.heap.size := by omega
  have k5_3_0 := keep1 (x := .int .u64 0) (o := 0) (b := w3.heap.size) hb5 (by first | assumption | ((simp (disch := first | omega | (simp; done) | (simp; omega)) [go_sem, *]) <;> rfl))
  have k5_3_1 := keep1 (x := .int .u64 0) (o := 1) (b := w3.heap.size) hb5 (by first | assumption | ((simp (disch := first | omega | (simp; done) | (simp; omega)) [go_sem, *]) <;> rfl))
  clear k4_0_0 z4_0 k4_1_0 k4_1_1 z4_1 k4_2_0 k4_2_1 z4_2 k4_3_0 k4_3_1 z4_3
  go_wp2_with fail
  have s : CC w w.heap.size w3.heap.size l q (0) (0) w5.drew := ⟨k5_0_0, k5_1_0, k5_1_1, k5_3_0, k5_3_1, B5.drew⟩
  have S5 := Lib.hid s
  have NE : Nonempty (Wd (CC w w.heap.size w3.heap.size l q (0) (0))) := ⟨⟨_, s⟩⟩
  clear s hb1 hb2 hb3 hb4 hb5 B1 B2 B3 B4 B5 hz1 hz2 hz3 hz4 hz5 hg zg k5_0_0 z5_0 k5_1_0 k5_1_1 z5_1 k5_2_0 k5_2_1 z5_2 k5_3_0 k5_3_1 z5_3
  have j0 : ∀ s : Wd (CC w w.heap.size w3.heap.size l q (0) (0)), s.val.cell? ⟨w.heap.size, 0, none⟩ = some (.int .u64 l) := fun s => s.ok.c0
  have j1 : ∀ s : Wd (CC w w.heap.size w3.heap.size l q (0) (0)), s.val.cell? ⟨w.heap.size, 1, none⟩ = some (.int .u64 q) := fun s => s.ok.c1
  have j2 : ∀ s : Wd (CC w w.heap.size w3.heap.size l q (0) (0)), s.val.cell? ⟨w3.heap.size, 0, none⟩ = some (.int .u64 0) := fun s => s.ok.d0
  have j3 : ∀ s : Wd (CC w w.heap.size w3.heap.size l q (0) (0)), s.val.cell? ⟨w3.heap.size, 1, none⟩ = some (.int .u64 0) := fun s => s.ok.d1
  have QF := Lib.hid (fun s : Wd (CC w w.heap.size w3.heap.size l q (0) (0)) => in_of_below s (fun y hb => s.ok.next hb) (fixed_true s.val))
  have QC := Lib.hid (fun s : Wd (CC w w.heap.size w3.heap.size l q (0) (0)) => in_of_below s (fun y hb => s.ok.next hb) (Clk.check_ok l q s.val (by omega) (by omega) (by omega)))
  have QU := Lib.hid (fun s : Wd (CC w w.heap.size w3.heap.size l q (0) (0)) => in_of_below s (fun y hb => s.ok.next hb) (Ref.rules_ok l q s.val (by omega) (by omega) (by omega)))
  have Q2 := Lib.hid (fun s : Wd (CC w w.heap.size w3.heap.size l q (0) (0)) => in_of_below s (fun y hb => s.ok.next hb) (number_num 2 s.val s.ok.e))
  refine wp_region_in (CC w w.heap.size w3.heap.size l q (0) (0)) (by kernel_rfl) (by kernel_rfl) S5.out ?_
  repeat (go_big_quiet_step (first
      | with_reducible exact QF.out _
      | with_reducible exact QC.out _
      | with_reducible exact QU.out _
      | with_reducible exact Q2.out _))
  clear j0 j1 j2 j3 QF QC QU Q2
  refine wpQuiet_nil ?_
  rintro y ⟨⟨_, s⟩, rfl⟩
  go_wp2_with fail
  refine (Err.is_num _ _ _).mono ?_
  rintro e w' ⟨rfl, rfl⟩
  go_wp2_with fail
  go_ret
  exact ⟨rfl, s.below⟩
set_option maxRecDepth 100000 in
set_option maxHeartbeats 8000000 in
theorem calls_rules (l q u a b n : Int) (w : World) (hg : w.cell? ⟨0, 0, none⟩ = some (.iface 58 (.agg #[.pointer (some ⟨1, 28, none⟩)])))
    (HR : Hid (l < 1 ∨ 1099511627776 < l ∨ l < q)) (h0 : 0 ≤ a) (h1 : a ≤ n) (h2 : n ≤ 1099511627776) (h3 : 0 ≤ u) (h4 : u ≤ 1099511627776) (h5 : 0 ≤ b) (h6 : b ≤ 1099511627776) (S : Int) (HS : Hid (S = b + n - a)) (S0 : 0 ≤ S) :
    Calls Tryd.prog 3 #[.int .u64 l, .int .u64 q, .int .u64 u, .int .u64 a, .int .u64 b, .int .u64 n] w fun e w' => e = .returned (.bool true) ∧ Below w.heap.size w w' := by
  have zg := inHeap hg
  go_enter Tryd.func3, Tryd.ntmps3
  go_wp2_with fail
  refine (Clk.spent_ok u a b n _ (by omega) (by omega) (by omega) (by omega) (by omega) (by omega) (by omega)).mono ?_
  rintro e w1 ⟨rfl, hb1⟩
  rw [show b + n - a = S by have := HS.out; omega]
  have hz1 := hb1.size
  try simp at hz1
  have B1 := (by first | exact blo0 (Below.refl _ _) hb1 (Nat.le_refl _) | exact blo1 (Below.refl _ _) hb1 (Nat.le_refl _) | exact blo2 (Below.refl _ _) hb1 (Nat.le_refl _) | exact blo3 (Below.refl _ _) hb1 (Nat.le_refl _) : Below w.heap.size w w1)
  have z1_0 : 0 < w1.heap.size := by omega
  have k1_0_0 := keep1 (x := .iface 58 (.agg #[.pointer (some ⟨1, 28, none⟩)])) (o := 0) (b := 0) hb1 (by first | assumption | ((simp (disch := first | omega | (simp; done) | (simp; omega)) [go_sem, *]) <;> rfl))
  have z1_1 : w.heap.size < w1.heap.size := by omega
  have k1_1_0 := keep1 (x := .int .u64 l) (o := 0) (b := w.heap.size) hb1 (by first | assumption | ((simp (disch := first | omega | (simp; done) | (simp; omega)) [go_sem, *]) <;> rfl))
  have k1_1_1 := keep1 (x := .int .u64 q) (o := 1) (b := w.heap.size) hb1 (by first | assumption | ((simp (disch := first | omega | (simp; done) | (simp; omega)) [go_sem, *]) <;> rfl))
  have z1_2 : w.heap.size + 1 < w1.heap.size := by omega
  have k1_2_0 := keep1 (x := .int .u64 u) (o := 0) (b := w.heap.size + 1) hb1 (by first | assumption | ((simp (disch := first | omega | (simp; done) | (simp; omega)) [go_sem, *]) <;> rfl))
  have k1_2_1 := keep1 (x := .int .u64 a) (o := 1) (b := w.heap.size + 1) hb1 (by first | assumption | ((simp (disch := first | omega | (simp; done) | (simp; omega)) [go_sem, *]) <;> rfl))
  go_wp2_with fail
  refine (Ref.spent_ok u a b n _ (by omega) (by omega) (by omega) (by omega) (by omega) (by omega) (by omega)).mono ?_
  rintro e w2 ⟨rfl, hb2⟩
  rw [show b + (n - a) = S by have := HS.out; omega]
  have hz2 := hb2.size
  try simp at hz2
  have B2 := (by first | exact blo0 B1 hb2 (by omega) | exact blo1 B1 hb2 (by omega) | exact blo2 B1 hb2 (by omega) | exact blo3 B1 hb2 (by omega) : Below w.heap.size w w2)
  have z2_0 : 0 < w2.heap.size := by omega
  have k2_0_0 := keep1 (x := .iface 58 (.agg #[.pointer (some ⟨1, 28, none⟩)])) (o := 0) (b := 0) hb2 (by first | assumption | ((simp (disch := first | omega | (simp; done) | (simp; omega)) [go_sem, *]) <;> rfl))
  have z2_1 : w.heap.size < w2.heap.size := by omega
  have k2_1_0 := keep1 (x := .int .u64 l) (o := 0) (b := w.heap.size) hb2 (by first | assumption | ((simp (disch := first | omega | (simp; done) | (simp; omega)) [go_sem, *]) <;> rfl))
  have k2_1_1 := keep1 (x := .int .u64 q) (o := 1) (b := w.heap.size) hb2 (by first | assumption | ((simp (disch := first | omega | (simp; done) | (simp; omega)) [go_sem, *]) <;> rfl))
  have z2_2 : w.heap.size + 1 < w2.heap.size := by omega
  have k2_2_0 := keep1 (x := .int .u64 u) (o := 0) (b := w.heap.size + 1) hb2 (by first | assumption | ((simp (disch := first | omega | (simp; done) | (simp; omega)) [go_sem, *]) <;> rfl))
  have k2_2_1 := keep1 (x := .int .u64 a) (o := 1) (b := w.heap.size + 1) hb2 (by first | assumption | ((simp (disch := first | omega | (simp; done) | (simp; omega)) [go_sem, *]) <;> rfl))
  clear k1_0_0 z1_0 k1_1_0 k1_1_1 z1_1 k1_2_0 k1_2_1 z1_2
  go_wp2_with fail
  refine (Clk.next_rules l q u a b n _ HR.out).mono ?_
  rintro e w3 ⟨rfl, hb3⟩
  have hz3 := hb3.size
  try simp at hz3
  have B3 := (by first | exact blo0 B2 hb3 (by omega) | exact blo1 B2 hb3 (by omega) | exact blo2 B2 hb3 (by omega) | exact blo3 B2 hb3 (by omega) : Below w.heap.size w w3)
  have z3_0 : 0 < w3.heap.size := by omega
  have k3_0_0 := keep1 (x := .iface 58 (.agg #[.pointer (some ⟨1, 28, none⟩)])) (o := 0) (b := 0) hb3 (by first | assumption | ((simp (disch := first | omega | (simp; done) | (simp; omega)) [go_sem, *]) <;> rfl))
  have z3_1 : w.heap.size < w3.heap.size := by omega
  have k3_1_0 := keep1 (x := .int .u64 l) (o := 0) (b := w.heap.size) hb3 (by first | assumption | ((simp (disch := first | omega | (simp; done) | (simp; omega)) [go_sem, *]) <;> rfl))
  have k3_1_1 := keep1 (x := .int .u64 q) (o := 1) (b := w.heap.size) hb3 (by first | assumption | ((simp (disch := first | omega | (simp; done) | (simp; omega)) [go_sem, *]) <;> rfl))
  have z3_2 : w.heap.size + 1 < w3.heap.size := by omega
  have k3_2_0 := keep1 (x := .int .u64 u) (o := 0) (b := w.heap.size + 1) hb3 (by first | assumption | ((simp (disch := first | omega | (simp; done) | (simp; omega)) [go_sem, *]) <;> rfl))
  have k3_2_1 := keep1 (x := .int .u64 a) (o := 1) (b := w.heap.size + 1) hb3 (by first | assumption | ((simp (disch := first | omega | (simp; done) | (simp; omega)) [go_sem, *]) <;> rfl))
  clear k2_0_0 z2_0 k2_1_0 k2_1_1 z2_1 k2_2_0 k2_2_1 z2_2
  go_wp2_with fail
  refine (Ref.next_rules l q u a b n _ HR.out).mono ?_
  rintro e w4 ⟨rfl, hb4⟩
  have hz4 := hb4.size
  try simp at hz4
  have B4 := (by first | exact blo0 B3 hb4 (by omega) | exact blo1 B3 hb4 (by omega) | exact blo2 B3 hb4 (by omega) | exact blo3 B3 hb4 (by omega) : Below w.heap.size w w4)
  have z4_0 : 0 < w4.heap.size := by omega
  have k4_0_0 := keep1 (x := .iface 58 (.agg #[.pointer (some ⟨1, 28, none⟩)])) (o := 0) (b := 0) hb4 (by first | assumption | ((simp (disch := first | omega | (simp; done) | (simp; omega)) [go_sem, *]) <;> rfl))
  have z4_1 : w.heap.size < w4.heap.size := by omega
  have k4_1_0 := keep1 (x := .int .u64 l) (o := 0) (b := w.heap.size) hb4 (by first | assumption | ((simp (disch := first | omega | (simp; done) | (simp; omega)) [go_sem, *]) <;> rfl))
  have k4_1_1 := keep1 (x := .int .u64 q) (o := 1) (b := w.heap.size) hb4 (by first | assumption | ((simp (disch := first | omega | (simp; done) | (simp; omega)) [go_sem, *]) <;> rfl))
  have z4_2 : w.heap.size + 1 < w4.heap.size := by omega
  have k4_2_0 := keep1 (x := .int .u64 u) (o := 0) (b := w.heap.size + 1) hb4 (by first | assumption | ((simp (disch := first | omega | (simp; done) | (simp; omega)) [go_sem, *]) <;> rfl))
  have k4_2_1 := keep1 (x := .int .u64 a) (o := 1) (b := w.heap.size + 1) hb4 (by first | assumption | ((simp (disch := first | omega | (simp; done) | (simp; omega)) [go_sem, *]) <;> rfl))
  have z4_3 : w3.heap.size < w4.heap.size := by omega
  have k4_3_0 := keep1 (x := .int .u64 0) (o := 0) (b := w3.heap.size) hb4 (by first | assumption | ((simp (disch := first | omega | (simp; done) | (simp; omega)) [go_sem, *]) <;> rfl))
  have k4_3_1 := keep1 (x := .int .u64 0) (o := 1) (b := w3.heap.size) hb4 (by first | assumption | ((simp (disch := first | omega | (simp; done) | (simp; omega)) [go_sem, *]) <;> rfl))
  clear k3_0_0 z3_0 k3_1_0 k3_1_1 z3_1 k3_2_0 k3_2_1 z3_2
  go_wp2_with fail
  refine (Clk.over_rules l q u a b n _ HR.out).mono ?_
  rintro e w5 ⟨rfl, hb5⟩
  have hz5 := hb5.size
  try simp at hz5
  have B5 := (by first | exact blo0 B4 hb5 (by omega) | exact blo1 B4 hb5 (by omega) | exact blo2 B4 hb5 (by omega) | exact blo3 B4 hb5 (by omega) : Below w.heap.size w w5)
  have z5_0 : 0 < w5.heap.size := by omega
  have k5_0_0 := keep1 (x := .iface 58 (.agg #[.pointer (some ⟨1, 28, none⟩)])) (o := 0) (b := 0) hb5 (by first | assumption | ((simp (disch := first | omega | (simp; done) | (simp; omega)) [go_sem, *]) <;> rfl))
  have z5_1 : w.heap.size < w5.heap.size := by omega
  have k5_1_0 := keep1 (x := .int .u64 l) (o := 0) (b := w.heap.size) hb5 (by first | assumption | ((simp (disch := first | omega | (simp; done) | (simp; omega)) [go_sem, *]) <;> rfl))
  have k5_1_1 := keep1 (x := .int .u64 q) (o := 1) (b := w.heap.size) hb5 (by first | assumption | ((simp (disch := first | omega | (simp; done) | (simp; omega)) [go_sem, *]) <;> rfl))
  have z5_2 : w.heap.size + 1 < w5.heap.size := by omega
  have k5_2_0 := keep1 (x := .int .u64 u) (o := 0) (b := w.heap.size + 1) hb5 (by first | assumption | ((simp (disch := first | omega | (simp; done) | (simp; omega)) [go_sem, *]) <;> rfl))
  have k5_2_1 := keep1 (x := .int .u64 a) (o := 1) (b := w.heap.size + 1) hb5 (by first | assumption | ((simp (disch := first | omega | (simp; done) | (simp; omega)) [go_sem, *]) <;> rfl))
  have z5_3 : w3.heap.size < w5.heap.size := by omega
  have k5_3_0 := keep1 (x := .int .u64 0) (o := 0) (b := w3.heap.size) hb5 (by first | assumption | ((simp (disch := first | omega | (simp; done) | (simp; omega)) [go_sem, *]) <;> rfl))
  have k5_3_1 := keep1 (x := .int .u64 0) (o := 1) (b := w3.heap.size) hb5 (by first | assumption | ((simp (disch := first | omega | (simp; done) | (simp; omega)) [go_sem, *]) <;> rfl))
  clear k4_0_0 z4_0 k4_1_0 k4_1_1 z4_1 k4_2_0 k4_2_1 z4_2 k4_3_0 k4_3_1 z4_3
  go_wp2_with fail
  have s : CC w w.heap.size w3.heap.size l q (0) (0) w5.drew := ⟨k5_0_0, k5_1_0, k5_1_1, k5_3_0, k5_3_1, B5.drew⟩
  have S5 := Lib.hid s
  have NE : Nonempty (Wd (CC w w.heap.size w3.heap.size l q (0) (0))) := ⟨⟨_, s⟩⟩
  clear s hb1 hb2 hb3 hb4 hb5 B1 B2 B3 B4 B5 hz1 hz2 hz3 hz4 hz5 hg zg k5_0_0 z5_0 k5_1_0 k5_1_1 z5_1 k5_2_0 k5_2_1 z5_2 k5_3_0 k5_3_1 z5_3
  have j0 : ∀ s : Wd (CC w w.heap.size w3.heap.size l q (0) (0)), s.val.cell? ⟨w.heap.size, 0, none⟩ = some (.int .u64 l) := fun s => s.ok.c0
  have j1 : ∀ s : Wd (CC w w.heap.size w3.heap.size l q (0) (0)), s.val.cell? ⟨w.heap.size, 1, none⟩ = some (.int .u64 q) := fun s => s.ok.c1
  have j2 : ∀ s : Wd (CC w w.heap.size w3.heap.size l q (0) (0)), s.val.cell? ⟨w3.heap.size, 0, none⟩ = some (.int .u64 0) := fun s => s.ok.d0
  have j3 : ∀ s : Wd (CC w w.heap.size w3.heap.size l q (0) (0)), s.val.cell? ⟨w3.heap.size, 1, none⟩ = some (.int .u64 0) := fun s => s.ok.d1
  have QF := Lib.hid (fun s : Wd (CC w w.heap.size w3.heap.size l q (0) (0)) => in_of_below s (fun y hb => s.ok.next hb) (fixed_true s.val))
  have QC := Lib.hid (fun s : Wd (CC w w.heap.size w3.heap.size l q (0) (0)) => in_of_below s (fun y hb => s.ok.next hb) (Clk.check_bad l q s.val HR.out))
  have QU := Lib.hid (fun s : Wd (CC w w.heap.size w3.heap.size l q (0) (0)) => in_of_below s (fun y hb => s.ok.next hb) (Ref.rules_bad l q s.val HR.out))
  have QN := Lib.hid (fun s : Wd (CC w w.heap.size w3.heap.size l q (0) (0)) => in_of_below s (fun y hb => s.ok.next hb) (number_nil s.val))
  have Q2 := Lib.hid (fun s : Wd (CC w w.heap.size w3.heap.size l q (0) (0)) => in_of_below s (fun y hb => s.ok.next hb) (number_num 2 s.val s.ok.e))
  refine wp_region_in (CC w w.heap.size w3.heap.size l q (0) (0)) (by kernel_rfl) (by kernel_rfl) S5.out ?_
  repeat (go_big_quiet_step (first
      | with_reducible exact QF.out _
      | with_reducible exact QC.out _
      | with_reducible exact QU.out _
      | with_reducible exact QN.out _
      | with_reducible exact Q2.out _))
  clear j0 j1 j2 j3 QF QC QU QN Q2
  refine wpQuiet_nil ?_
  rintro y ⟨⟨_, s⟩, rfl⟩
  go_wp2_with fail
  refine (Err.is_num _ _ _).mono ?_
  rintro e w' ⟨rfl, rfl⟩
  go_wp2_with fail
  go_ret
  exact ⟨rfl, s.below⟩
set_option maxRecDepth 100000 in
set_option maxHeartbeats 8000000 in
theorem calls_both (l q u a b n : Int) (w : World) (hg : w.cell? ⟨0, 0, none⟩ = some (.iface 58 (.agg #[.pointer (some ⟨1, 28, none⟩)])))
    (HR : Hid (l < 1 ∨ 1099511627776 < l ∨ l < q)) (HF : Hid (n < a ∨ 1099511627776 < n ∨ 1099511627776 < u ∨ 1099511627776 < b)) :
    Calls Tryd.prog 3 #[.int .u64 l, .int .u64 q, .int .u64 u, .int .u64 a, .int .u64 b, .int .u64 n] w fun e w' => e = .returned (.bool true) ∧ Below w.heap.size w w' := by
  have zg := inHeap hg
  go_enter Tryd.func3, Tryd.ntmps3
  go_wp2_with fail
  refine (Clk.spent_bad u a b n _ HF.out).mono ?_
  rintro e w1 ⟨rfl, hb1⟩
  have hz1 := hb1.size
  try simp at hz1
  have B1 := (by first | exact blo0 (Below.refl _ _) hb1 (Nat.le_refl _) | exact blo1 (Below.refl _ _) hb1 (Nat.le_refl _) | exact blo2 (Below.refl _ _) hb1 (Nat.le_refl _) | exact blo3 (Below.refl _ _) hb1 (Nat.le_refl _) : Below w.heap.size w w1)
  have z1_0 : 0 < w1.heap.size := by omega
  have k1_0_0 := keep1 (x := .iface 58 (.agg #[.pointer (some ⟨1, 28, none⟩)])) (o := 0) (b := 0) hb1 (by first | assumption | ((simp (disch := first | omega | (simp; done) | (simp; omega)) [go_sem, *]) <;> rfl))
  have z1_1 : w.heap.size < w1.heap.size := by omega
  have k1_1_0 := keep1 (x := .int .u64 l) (o := 0) (b := w.heap.size) hb1 (by first | assumption | ((simp (disch := first | omega | (simp; done) | (simp; omega)) [go_sem, *]) <;> rfl))
  have k1_1_1 := keep1 (x := .int .u64 q) (o := 1) (b := w.heap.size) hb1 (by first | assumption | ((simp (disch := first | omega | (simp; done) | (simp; omega)) [go_sem, *]) <;> rfl))
  have z1_2 : w.heap.size + 1 < w1.heap.size := by omega
  have k1_2_0 := keep1 (x := .int .u64 u) (o := 0) (b := w.heap.size + 1) hb1 (by first | assumption | ((simp (disch := first | omega | (simp; done) | (simp; omega)) [go_sem, *]) <;> rfl))
  have k1_2_1 := keep1 (x := .int .u64 a) (o := 1) (b := w.heap.size + 1) hb1 (by first | assumption | ((simp (disch := first | omega | (simp; done) | (simp; omega)) [go_sem, *]) <;> rfl))
  go_wp2_with fail
  refine (Ref.spent_bad u a b n _ HF.out).mono ?_
  rintro e w2 ⟨rfl, hb2⟩
  have hz2 := hb2.size
  try simp at hz2
  have B2 := (by first | exact blo0 B1 hb2 (by omega) | exact blo1 B1 hb2 (by omega) | exact blo2 B1 hb2 (by omega) | exact blo3 B1 hb2 (by omega) : Below w.heap.size w w2)
  have z2_0 : 0 < w2.heap.size := by omega
  have k2_0_0 := keep1 (x := .iface 58 (.agg #[.pointer (some ⟨1, 28, none⟩)])) (o := 0) (b := 0) hb2 (by first | assumption | ((simp (disch := first | omega | (simp; done) | (simp; omega)) [go_sem, *]) <;> rfl))
  have z2_1 : w.heap.size < w2.heap.size := by omega
  have k2_1_0 := keep1 (x := .int .u64 l) (o := 0) (b := w.heap.size) hb2 (by first | assumption | ((simp (disch := first | omega | (simp; done) | (simp; omega)) [go_sem, *]) <;> rfl))
  have k2_1_1 := keep1 (x := .int .u64 q) (o := 1) (b := w.heap.size) hb2 (by first | assumption | ((simp (disch := first | omega | (simp; done) | (simp; omega)) [go_sem, *]) <;> rfl))
  have z2_2 : w.heap.size + 1 < w2.heap.size := by omega
  have k2_2_0 := keep1 (x := .int .u64 u) (o := 0) (b := w.heap.size + 1) hb2 (by first | assumption | ((simp (disch := first | omega | (simp; done) | (simp; omega)) [go_sem, *]) <;> rfl))
  have k2_2_1 := keep1 (x := .int .u64 a) (o := 1) (b := w.heap.size + 1) hb2 (by first | assumption | ((simp (disch := first | omega | (simp; done) | (simp; omega)) [go_sem, *]) <;> rfl))
  clear k1_0_0 z1_0 k1_1_0 k1_1_1 z1_1 k1_2_0 k1_2_1 z1_2
  go_wp2_with fail
  refine (Clk.next_rules l q u a b n _ HR.out).mono ?_
  rintro e w3 ⟨rfl, hb3⟩
  have hz3 := hb3.size
  try simp at hz3
  have B3 := (by first | exact blo0 B2 hb3 (by omega) | exact blo1 B2 hb3 (by omega) | exact blo2 B2 hb3 (by omega) | exact blo3 B2 hb3 (by omega) : Below w.heap.size w w3)
  have z3_0 : 0 < w3.heap.size := by omega
  have k3_0_0 := keep1 (x := .iface 58 (.agg #[.pointer (some ⟨1, 28, none⟩)])) (o := 0) (b := 0) hb3 (by first | assumption | ((simp (disch := first | omega | (simp; done) | (simp; omega)) [go_sem, *]) <;> rfl))
  have z3_1 : w.heap.size < w3.heap.size := by omega
  have k3_1_0 := keep1 (x := .int .u64 l) (o := 0) (b := w.heap.size) hb3 (by first | assumption | ((simp (disch := first | omega | (simp; done) | (simp; omega)) [go_sem, *]) <;> rfl))
  have k3_1_1 := keep1 (x := .int .u64 q) (o := 1) (b := w.heap.size) hb3 (by first | assumption | ((simp (disch := first | omega | (simp; done) | (simp; omega)) [go_sem, *]) <;> rfl))
  have z3_2 : w.heap.size + 1 < w3.heap.size := by omega
  have k3_2_0 := keep1 (x := .int .u64 u) (o := 0) (b := w.heap.size + 1) hb3 (by first | assumption | ((simp (disch := first | omega | (simp; done) | (simp; omega)) [go_sem, *]) <;> rfl))
  have k3_2_1 := keep1 (x := .int .u64 a) (o := 1) (b := w.heap.size + 1) hb3 (by first | assumption | ((simp (disch := first | omega | (simp; done) | (simp; omega)) [go_sem, *]) <;> rfl))
  clear k2_0_0 z2_0 k2_1_0 k2_1_1 z2_1 k2_2_0 k2_2_1 z2_2
  go_wp2_with fail
  refine (Ref.next_rules l q u a b n _ HR.out).mono ?_
  rintro e w4 ⟨rfl, hb4⟩
  have hz4 := hb4.size
  try simp at hz4
  have B4 := (by first | exact blo0 B3 hb4 (by omega) | exact blo1 B3 hb4 (by omega) | exact blo2 B3 hb4 (by omega) | exact blo3 B3 hb4 (by omega) : Below w.heap.size w w4)
  have z4_0 : 0 < w4.heap.size := by omega
  have k4_0_0 := keep1 (x := .iface 58 (.agg #[.pointer (some ⟨1, 28, none⟩)])) (o := 0) (b := 0) hb4 (by first | assumption | ((simp (disch := first | omega | (simp; done) | (simp; omega)) [go_sem, *]) <;> rfl))
  have z4_1 : w.heap.size < w4.heap.size := by omega
  have k4_1_0 := keep1 (x := .int .u64 l) (o := 0) (b := w.heap.size) hb4 (by first | assumption | ((simp (disch := first | omega | (simp; done) | (simp; omega)) [go_sem, *]) <;> rfl))
  have k4_1_1 := keep1 (x := .int .u64 q) (o := 1) (b := w.heap.size) hb4 (by first | assumption | ((simp (disch := first | omega | (simp; done) | (simp; omega)) [go_sem, *]) <;> rfl))
  have z4_2 : w.heap.size + 1 < w4.heap.size := by omega
  have k4_2_0 := keep1 (x := .int .u64 u) (o := 0) (b := w.heap.size + 1) hb4 (by first | assumption | ((simp (disch := first | omega | (simp; done) | (simp; omega)) [go_sem, *]) <;> rfl))
  have k4_2_1 := keep1 (x := .int .u64 a) (o := 1) (b := w.heap.size + 1) hb4 (by first | assumption | ((simp (disch := first | omega | (simp; done) | (simp; omega)) [go_sem, *]) <;> rfl))
  have z4_3 : w3.heap.size < w4.heap.size := by omega
  have k4_3_0 := keep1 (x := .int .u64 0) (o := 0) (b := w3.heap.size) hb4 (by first | assumption | ((simp (disch := first | omega | (simp; done) | (simp; omega)) [go_sem, *]) <;> rfl))
  have k4_3_1 := keep1 (x := .int .u64 0) (o := 1) (b := w3.heap.size) hb4 (by first | assumption | ((simp (disch := first | omega | (simp; done) | (simp; omega)) [go_sem, *]) <;> rfl))
  clear k3_0_0 z3_0 k3_1_0 k3_1_1 z3_1 k3_2_0 k3_2_1 z3_2
  go_wp2_with fail
  refine (Clk.over_rules l q u a b n _ HR.out).mono ?_
  rintro e w5 ⟨rfl, hb5⟩
  have hz5 := hb5.size
  try simp at hz5
  have B5 := (by first | exact blo0 B4 hb5 (by omega) | exact blo1 B4 hb5 (by omega) | exact blo2 B4 hb5 (by omega) | exact blo3 B4 hb5 (by omega) : Below w.heap.size w w5)
  have z5_0 : 0 < w5.heap.size := by omega
  have k5_0_0 := keep1 (x := .iface 58 (.agg #[.pointer (some ⟨1, 28, none⟩)])) (o := 0) (b := 0) hb5 (by first | assumption | ((simp (disch := first | omega | (simp; done) | (simp; omega)) [go_sem, *]) <;> rfl))
  have z5_1 : w.heap.size < w5.heap.size := by omega
  have k5_1_0 := keep1 (x := .int .u64 l) (o := 0) (b := w.heap.size) hb5 (by first | assumption | ((simp (disch := first | omega | (simp; done) | (simp; omega)) [go_sem, *]) <;> rfl))
  have k5_1_1 := keep1 (x := .int .u64 q) (o := 1) (b := w.heap.size) hb5 (by first | assumption | ((simp (disch := first | omega | (simp; done) | (simp; omega)) [go_sem, *]) <;> rfl))
  have z5_2 : w.heap.size + 1 < w5.heap.size := by omega
  have k5_2_0 := keep1 (x := .int .u64 u) (o := 0) (b := w.heap.size + 1) hb5 (by first | assumption | ((simp (disch := first | omega | (simp; done) | (simp; omega)) [go_sem, *]) <;> rfl))
  have k5_2_1 := keep1 (x := .int .u64 a) (o := 1) (b := w.heap.size + 1) hb5 (by first | assumption | ((simp (disch := first | omega | (simp; done) | (simp; omega)) [go_sem, *]) <;> rfl))
  have z5_3 : w3.heap.size < w5.heap.size := by omega
  have k5_3_0 := keep1 (x := .int .u64 0) (o := 0) (b := w3.heap.size) hb5 (by first | assumption | ((simp (disch := first | omega | (simp; done) | (simp; omega)) [go_sem, *]) <;> rfl))
  have k5_3_1 := keep1 (x := .int .u64 0) (o := 1) (b := w3.heap.size) hb5 (by first | assumption | ((simp (disch := first | omega | (simp; done) | (simp; omega)) [go_sem, *]) <;> rfl))
  clear k4_0_0 z4_0 k4_1_0 k4_1_1 z4_1 k4_2_0 k4_2_1 z4_2 k4_3_0 k4_3_1 z4_3
  go_wp2_with fail
  have s : CC w w.heap.size w3.heap.size l q (0) (0) w5.drew := ⟨k5_0_0, k5_1_0, k5_1_1, k5_3_0, k5_3_1, B5.drew⟩
  have S5 := Lib.hid s
  have NE : Nonempty (Wd (CC w w.heap.size w3.heap.size l q (0) (0))) := ⟨⟨_, s⟩⟩
  clear s hb1 hb2 hb3 hb4 hb5 B1 B2 B3 B4 B5 hz1 hz2 hz3 hz4 hz5 hg zg k5_0_0 z5_0 k5_1_0 k5_1_1 z5_1 k5_2_0 k5_2_1 z5_2 k5_3_0 k5_3_1 z5_3
  have j0 : ∀ s : Wd (CC w w.heap.size w3.heap.size l q (0) (0)), s.val.cell? ⟨w.heap.size, 0, none⟩ = some (.int .u64 l) := fun s => s.ok.c0
  have j1 : ∀ s : Wd (CC w w.heap.size w3.heap.size l q (0) (0)), s.val.cell? ⟨w.heap.size, 1, none⟩ = some (.int .u64 q) := fun s => s.ok.c1
  have j2 : ∀ s : Wd (CC w w.heap.size w3.heap.size l q (0) (0)), s.val.cell? ⟨w3.heap.size, 0, none⟩ = some (.int .u64 0) := fun s => s.ok.d0
  have j3 : ∀ s : Wd (CC w w.heap.size w3.heap.size l q (0) (0)), s.val.cell? ⟨w3.heap.size, 1, none⟩ = some (.int .u64 0) := fun s => s.ok.d1
  have QF := Lib.hid (fun s : Wd (CC w w.heap.size w3.heap.size l q (0) (0)) => in_of_below s (fun y hb => s.ok.next hb) (fixed_true s.val))
  have QC := Lib.hid (fun s : Wd (CC w w.heap.size w3.heap.size l q (0) (0)) => in_of_below s (fun y hb => s.ok.next hb) (Clk.check_bad l q s.val HR.out))
  have QU := Lib.hid (fun s : Wd (CC w w.heap.size w3.heap.size l q (0) (0)) => in_of_below s (fun y hb => s.ok.next hb) (Ref.rules_bad l q s.val HR.out))
  have Q2 := Lib.hid (fun s : Wd (CC w w.heap.size w3.heap.size l q (0) (0)) => in_of_below s (fun y hb => s.ok.next hb) (number_num 2 s.val s.ok.e))
  refine wp_region_in (CC w w.heap.size w3.heap.size l q (0) (0)) (by kernel_rfl) (by kernel_rfl) S5.out ?_
  repeat (go_big_quiet_step (first
      | with_reducible exact QF.out _
      | with_reducible exact QC.out _
      | with_reducible exact QU.out _
      | with_reducible exact Q2.out _))
  clear j0 j1 j2 j3 QF QC QU Q2
  refine wpQuiet_nil ?_
  rintro y ⟨⟨_, s⟩, rfl⟩
  go_wp2_with fail
  refine (Err.is_num _ _ _).mono ?_
  rintro e w' ⟨rfl, rfl⟩
  go_wp2_with fail
  go_ret
  exact ⟨rfl, s.below⟩
theorem clockCalls_walk (l q u a b n : Int) (w0 : (Lit.int .u64 l).wf = true) (w1 : (Lit.int .u64 q).wf = true) (w2 : (Lit.int .u64 u).wf = true) (w3 : (Lit.int .u64 a).wf = true) (w4 : (Lit.int .u64 b).wf = true) (w5 : (Lit.int .u64 n).wf = true) (w : World) (hg : w.cell? ⟨0, 0, none⟩ = some (.iface 58 (.agg #[.pointer (some ⟨1, 28, none⟩)]))) :
    Calls Tryd.prog 3 #[.int .u64 l, .int .u64 q, .int .u64 u, .int .u64 a, .int .u64 b, .int .u64 n] w fun e w' => e = .returned (.bool true) ∧ Below w.heap.size w w' := by
  have b0 := bounds_u64 w0
  have b1 := bounds_u64 w1
  have b2 := bounds_u64 w2
  have b3 := bounds_u64 w3
  have b4 := bounds_u64 w4
  have b5 := bounds_u64 w5
  by_cases hr : l < 1 ∨ 1099511627776 < l ∨ l < q
  · by_cases hf : n < a ∨ 1099511627776 < n ∨ 1099511627776 < u ∨ 1099511627776 < b
    · exact calls_both l q u a b n w hg hr hf
    · exact calls_rules l q u a b n w hg hr (by omega) (by omega) (by omega) (by omega) (by omega) (by omega) (by omega) _ (Lib.hid rfl) (by omega)
  · by_cases hf : n < a ∨ 1099511627776 < n ∨ 1099511627776 < u ∨ 1099511627776 < b
    · exact calls_far l q u a b n w hg (by omega) (by omega) (by omega) (by omega) hf
    · by_cases hs : l ≤ b + n - a
      · exact calls_out l q u a b n w hg (by omega) (by omega) (by omega) (by omega) (by omega) (by omega) (by omega) (by omega) (by omega) (by omega) (by omega) _ (Lib.hid rfl) (by omega) hs
      · exact calls_in l q u a b n w hg (by omega) (by omega) (by omega) (by omega) (by omega) (by omega) (by omega) (by omega) (by omega) (by omega) (by omega) _ (Lib.hid rfl) (by omega) (by omega) _ (Lib.hid rfl)
end Go.Proofs.YtfapkffdhflliaaDoor
