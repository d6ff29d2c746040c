/-
  vm: an instruction's parts. Own work.
-/
import Derived.Test.YtdmffnjbholkkaaDoorErr
import Derived.Test.YtdmffnjbholkkaaDoorRow
import Derived.Test.YtdmffnjbholkkaaDoorQin
import Derived.Laws.BitsAllLaws
import Derived.IntWalk
import Derived.BigQuiet
import Derived.Deep.QuietTactic
import Derived.Deep.Cut
import Derived.Lib.Hide
import Derived.Outline
namespace Go.Proofs.YtdmffnjbholkkaaDoor
open Go.RowKit
set_option linter.unusedVariables false
set_option linter.unusedSimpArgs false
namespace Vm
def pOp (x : Nat) : Nat := x / 2 ^ 56 % 256
def pN0 (x : Nat) : Nat := x / 2 ^ 32 % 256
def pD (x : Nat) : Nat := x / 2 ^ 52 % 16
def pA (x : Nat) : Nat := x / 2 ^ 48 % 16
def pB (x : Nat) : Nat := x / 2 ^ 44 % 16
def pC (x : Nat) : Nat := x / 2 ^ 40 % 16
/-- The number, as 32 bits with a sign. -/
def pN (x : Nat) : Int := ((x : Int) + 2147483648) % 4294967296 - 2147483648
def pOk (x : Nat) : Bool := decide (pOp x ≤ 35) && decide (pN0 x = 0)
/-- What Parts answers. -/
def partsV (x : Nat) : Value :=
  if pOk x = true then .tuple #[.int .i64 (pOp x), .int .i64 (pD x), .int .i64 (pA x), .int .i64 (pB x), .int .i64 (pC x), .int .i64 (pN x), .bool true]
  else .tuple #[.int .i64 0, .int .i64 0, .int .i64 0, .int .i64 0, .int .i64 0, .int .i64 0, .bool false]
theorem cut_walk (w : World) (q : Nat) (x : Nat) (k j : Nat) (hx : x < 18446744073709551616) (hk : k < 64) (hj : j ≤ 8) (k0 : w.cell? ⟨q, 0, none⟩ = some (.int .u64 x)) :
    Calls Tryd.prog 66 #[.int .u64 k, .int .u64 ((2 ^ j - 1 : Nat) : Int), .pointer (some ⟨q, 0, none⟩)] w fun e w' => e = .returned (.int .i64 ((x / 2 ^ k % 2 ^ j : Nat) : Int)) ∧ w = w' := by
  have hp : 2 ^ j ≤ 2 ^ 8 := Nat.pow_le_pow_right (by decide) hj
  have hpp : 0 < 2 ^ j := Nat.pow_pos (by decide)
  have hle : x / 2 ^ k ≤ x := Nat.div_le_self _ _
  have hb := u64_and_nat (x / 2 ^ k) (2 ^ j - 1) (by omega) (by omega)
  rw [Nat.and_two_pow_sub_one_eq_mod] at hb
  have hc : ((x / 2 ^ k : Nat) : Int) = (x : Int) / 2 ^ k := by rw [Int.natCast_ediv, Int.natCast_pow]; rfl
  have hw : wrap64 (((x / 2 ^ k % 2 ^ j : Nat)) : Int) = ((x / 2 ^ k % 2 ^ j : Nat) : Int) := by
    have := Nat.mod_lt (x / 2 ^ k) hpp
    generalize x / 2 ^ k % 2 ^ j = z at *
    unfold wrap64; omega
  rw [hc] at hb
  have HB := Lib.hid hb
  have HW := Lib.hid hw
  clear hb hw hc hle hpp hp
  generalize ((2 ^ j - 1 : Nat) : Int) = M at *
  generalize ((x / 2 ^ k % 2 ^ j : Nat) : Int) = R at *
  go_enter Tryd.func66, Tryd.ntmps66
  go_wp2_with (fail)
  rw [HB.out, HW.out]
  go_ret
  exact ⟨rfl, rfl⟩
theorem cut255 (w : World) (q x k : Nat) (hx : x < 18446744073709551616) (hk : k < 64) (k0 : w.cell? ⟨q, 0, none⟩ = some (.int .u64 x)) :
    Calls Tryd.prog 66 #[.int .u64 k, .int .u64 255, .pointer (some ⟨q, 0, none⟩)] w fun e w' => e = .returned (.int .i64 ((x / 2 ^ k % 256 : Nat) : Int)) ∧ w = w' := cut_walk w q x k 8 hx hk (by decide) k0
theorem cut15 (w : World) (q x k : Nat) (hx : x < 18446744073709551616) (hk : k < 64) (k0 : w.cell? ⟨q, 0, none⟩ = some (.int .u64 x)) :
    Calls Tryd.prog 66 #[.int .u64 k, .int .u64 15, .pointer (some ⟨q, 0, none⟩)] w fun e w' => e = .returned (.int .i64 ((x / 2 ^ k % 16 : Nat) : Int)) ∧ w = w' := cut_walk w q x k 4 hx hk (by decide) k0
theorem c56 (w : World) (q x : Nat) (hx : x < 18446744073709551616) (k0 : w.cell? ⟨q, 0, none⟩ = some (.int .u64 x)) :
    Calls Tryd.prog 66 #[.int .u64 56, .int .u64 255, .pointer (some ⟨q, 0, none⟩)] w fun e w' => e = .returned (.int .i64 (pOp x : Int)) ∧ w = w' := cut255 w q x 56 hx (by decide) k0
theorem c32 (w : World) (q x : Nat) (hx : x < 18446744073709551616) (k0 : w.cell? ⟨q, 0, none⟩ = some (.int .u64 x)) :
    Calls Tryd.prog 66 #[.int .u64 32, .int .u64 255, .pointer (some ⟨q, 0, none⟩)] w fun e w' => e = .returned (.int .i64 (pN0 x : Int)) ∧ w = w' := cut255 w q x 32 hx (by decide) k0
theorem c52 (w : World) (q x : Nat) (hx : x < 18446744073709551616) (k0 : w.cell? ⟨q, 0, none⟩ = some (.int .u64 x)) :
    Calls Tryd.prog 66 #[.int .u64 52, .int .u64 15, .pointer (some ⟨q, 0, none⟩)] w fun e w' => e = .returned (.int .i64 (pD x : Int)) ∧ w = w' := cut15 w q x 52 hx (by decide) k0
theorem c48 (w : World) (q x : Nat) (hx : x < 18446744073709551616) (k0 : w.cell? ⟨q, 0, none⟩ = some (.int .u64 x)) :
    Calls Tryd.prog 66 #[.int .u64 48, .int .u64 15, .pointer (some ⟨q, 0, none⟩)] w fun e w' => e = .returned (.int .i64 (pA x : Int)) ∧ w = w' := cut15 w q x 48 hx (by decide) k0
theorem c44 (w : World) (q x : Nat) (hx : x < 18446744073709551616) (k0 : w.cell? ⟨q, 0, none⟩ = some (.int .u64 x)) :
    Calls Tryd.prog 66 #[.int .u64 44, .int .u64 15, .pointer (some ⟨q, 0, none⟩)] w fun e w' => e = .returned (.int .i64 (pB x : Int)) ∧ w = w' := cut15 w q x 44 hx (by decide) k0
theorem c40 (w : World) (q x : Nat) (hx : x < 18446744073709551616) (k0 : w.cell? ⟨q, 0, none⟩ = some (.int .u64 x)) :
    Calls Tryd.prog 66 #[.int .u64 40, .int .u64 15, .pointer (some ⟨q, 0, none⟩)] w fun e w' => e = .returned (.int .i64 (pC x : Int)) ∧ w = w' := cut15 w q x 40 hx (by decide) k0
/-- A world in which the box holds the word. -/
structure Bx (W : World) (q x : Nat) (y : World) : Prop where
  cell : y.cell? ⟨q, 0, none⟩ = some (.int .u64 x)
  below : Below W.heap.size W y
set_option maxHeartbeats 1000000 in
set_option maxRecDepth 100000 in
theorem parts_walk (w : World) (x : Nat) (hx : x < 18446744073709551616) :
    Calls Tryd.prog 45 #[.int .u64 x] w fun e w' => e = .returned (partsV x) ∧ Below w.heap.size w w' := by
  have HB : Hid (Bx w w.heap.size x (w.alloc (.cells #[.int .u64 x] 78))) := Lib.hid ⟨by simp, (Below.refl _ _).alloc (Nat.le_refl _) _⟩
  have HX := Lib.hid hx
  clear hx
  have hv : Hid (partsV x = if pOk x = true then .tuple #[.int .i64 (pOp x), .int .i64 (pD x), .int .i64 (pA x), .int .i64 (pB x), .int .i64 (pC x), .int .i64 (pN x), .bool true]
    else .tuple #[.int .i64 0, .int .i64 0, .int .i64 0, .int .i64 0, .int .i64 0, .int .i64 0, .bool false]) := Lib.hid rfl
  have HP : Hid (pOk x = (decide (pOp x ≤ 35) && decide (pN0 x = 0))) := Lib.hid rfl
  have H56 := Lib.hid (fun z : Wd (Bx w w.heap.size x) => in_of_same z (Calls.mono (c56 z.val w.heap.size x HX.out z.ok.cell) fun e w' h => h))
  have H52 := Lib.hid (fun z : Wd (Bx w w.heap.size x) => in_of_same z (c52 z.val w.heap.size x HX.out z.ok.cell))
  have H48 := Lib.hid (fun z : Wd (Bx w w.heap.size x) => in_of_same z (c48 z.val w.heap.size x HX.out z.ok.cell))
  have H44 := Lib.hid (fun z : Wd (Bx w w.heap.size x) => in_of_same z (c44 z.val w.heap.size x HX.out z.ok.cell))
  have H40 := Lib.hid (fun z : Wd (Bx w w.heap.size x) => in_of_same z (c40 z.val w.heap.size x HX.out z.ok.cell))
  have C56 := Lib.hid (c56 _ w.heap.size x HX.out HB.out.cell)
  have C32 := Lib.hid (c32 _ w.heap.size x HX.out HB.out.cell)
  have HN : Hid (wrap64 (wrap32 (x : Int)) = pN x) := Lib.hid (by unfold pN wrap64 wrap32; omega)
  go_enter Tryd.func45, Tryd.ntmps45
  go_upto_region 2 with (fail)
  generalize w.alloc (.cells #[.int .u64 x] 78) = y at *
  go_upto_region 3 with (go_at_call 66; (with_reducible refine C56.out.mono ?_); rintro e y1 ⟨he, hy⟩; obtain rfl : e = _ := he; subst hy)
  by_cases h1 : pOp x ≤ 35
  · by_cases h2 : pN0 x = 0
    · have t1 : decide (35 < (pOp x : Int)) = false := by simp; omega
      have t2 : ((pN0 x : Int) != 0) = false := by simp [h2]
      have HK : Hid (pOk x = true) := Lib.hid (by rw [HP.out]; simp [h1, h2])
      clear h1 h2
      go_upto_region 5 with (go_at_call 66; (with_reducible refine C32.out.mono ?_); rintro e y1 ⟨he, hy⟩; obtain rfl : e = _ := he; subst hy)
      have NE : Nonempty (Wd (Bx w w.heap.size x)) := ⟨⟨_, HB.out⟩⟩
      have k0 : ∀ z : Wd (Bx w w.heap.size x), z.val.cell? ⟨w.heap.size, 0, none⟩ = some (.int .u64 x) := fun z => z.ok.cell
      refine wp_region_in (Bx w w.heap.size x) (by kernel_rfl) (by kernel_rfl) ⟨HB.out.cell, HB.out.below.drew⟩ ?_
      repeat (go_big_quiet_step (first | with_reducible exact H52.out _ | with_reducible exact H48.out _ | with_reducible exact H44.out _ | with_reducible exact H40.out _))
      refine wpQuiet_nil ?_
      rintro y2 ⟨z, rfl⟩
      go_wp2_with (fail)
      rw [HN.out]
      refine bodyPost_ret (v := partsV x) ?_ rfl ⟨rfl, z.ok.below⟩
      rw [hv.out, if_pos HK.out]
      simp [results, Tryd.results45, go_sem]
    · have t1 : decide (35 < (pOp x : Int)) = false := by simp; omega
      have t2 : ((pN0 x : Int) != 0) = true := by simp; omega
      have HK : Hid (¬ pOk x = true) := Lib.hid (by rw [HP.out]; simp [h2])
      clear h1 h2
      go_wp2_with (go_at_call 66; (with_reducible refine C32.out.mono ?_); rintro e y1 ⟨he, hy⟩; obtain rfl : e = _ := he; subst hy)
      refine bodyPost_ret (v := partsV x) ?_ rfl ⟨rfl, HB.out.below⟩
      rw [hv.out, if_neg HK.out]
      simp [results, Tryd.results45, go_sem]
  · have t1 : decide (35 < (pOp x : Int)) = true := by simp; omega
    have HK : Hid (¬ pOk x = true) := Lib.hid (by rw [HP.out]; simp [h1])
    clear h1
    go_wp2_with (fail)
    refine bodyPost_ret (v := partsV x) ?_ rfl ⟨rfl, HB.out.below⟩
    rw [hv.out, if_neg HK.out]
    simp [results, Tryd.results45, go_sem]
end Vm
end Go.Proofs.YtdmffnjbholkkaaDoor
