/-
  mootref10.Parts. Own work.
-/
import Derived.Test.YtdmffnjbholkkaaDoorYc
namespace Go.Proofs.YtdmffnjbholkkaaDoor
open Go.RowKit
set_option linter.unusedVariables false
set_option linter.unusedSimpArgs false
namespace Vm
/-- The reference's five numbers. -/
def p5 (x : Nat) : Nat → Int := fun i => if pOk x = true then (match i with | 0 => (pOp x : Int) | 1 => pD x | 2 => pA x | 3 => pB x | _ => pC x) else 0
def nU (x : Nat) : Int := if pOk x = true then IntKind.u64.wrap (pN x) else 0
structure R5 (w : World) (q : Nat) (f : Nat → Int) : Prop where
  k0 : w.cell? ⟨q, 0, none⟩ = some (.int .i64 (f 0))
  k1 : w.cell? ⟨q, 1, none⟩ = some (.int .i64 (f 1))
  k2 : w.cell? ⟨q, 2, none⟩ = some (.int .i64 (f 2))
  k3 : w.cell? ⟨q, 3, none⟩ = some (.int .i64 (f 3))
  k4 : w.cell? ⟨q, 4, none⟩ = some (.int .i64 (f 4))
theorem R5.below {w w' : World} {q : Nat} {f : Nat → Int} (h : R5 w q f) (hb : Below w.heap.size w w') : R5 w' q f := ⟨keep1 hb h.k0, keep1 hb h.k1, keep1 hb h.k2, keep1 hb h.k3, keep1 hb h.k4⟩
theorem and15 (x k : Nat) (hx : x < 18446744073709551616) (K : Int) (hK : K = ((2 ^ k : Nat) : Int)) : wrap64 (bits .and .u64 ((x : Int) / K) 15) = ((x / 2 ^ k % 16 : Nat) : Int) := by
  subst hK
  have hle : x / 2 ^ k ≤ x := Nat.div_le_self _ _
  have hb := u64_and_nat (x / 2 ^ k) (2 ^ 4 - 1) (by omega) (by omega)
  rw [Nat.and_two_pow_sub_one_eq_mod] at hb
  rw [← Int.natCast_ediv]
  refine (congrArg wrap64 hb).trans ?_
  have := Nat.mod_lt (x / 2 ^ k) (show 0 < 2 ^ 4 by decide)
  show wrap64 ((x / 2 ^ k % 16 : Nat) : Int) = _
  generalize hz : x / 2 ^ k % 16 = z at *
  have : z < 16 := this
  unfold wrap64; omega
theorem and255 (x : Nat) (hx : x < 18446744073709551616) : bits .and .u64 ((x : Int) / 4294967296) 255 = (pN0 x : Int) := by
  have hb := u64_and_nat (x / 2 ^ 32) (2 ^ 8 - 1) (by omega) (by omega)
  rw [Nat.and_two_pow_sub_one_eq_mod] at hb
  exact hb
theorem top8 (x : Nat) (hx : x < 18446744073709551616) : wrap64 ((x : Int) / 72057594037927936) = (pOp x : Int) := by
  unfold pOp wrap64; omega
theorem lowX (x : Nat) (hx : x < 18446744073709551616) : bits .and .u64 (x : Int) 4294967295 = ((x % 4294967296 : Nat) : Int) := by
  have hb := u64_and_nat x (2 ^ 32 - 1) hx (by omega)
  rw [Nat.and_two_pow_sub_one_eq_mod] at hb
  exact hb
theorem R5.new (w : World) (a b c d e : Int) (f : Nat → Int) (h0 : f 0 = a) (h1 : f 1 = b) (h2 : f 2 = c) (h3 : f 3 = d) (h4 : f 4 = e) :
    R5 (w.alloc (.cells #[.int .i64 a, .int .i64 b, .int .i64 c, .int .i64 d, .int .i64 e] 3)) w.heap.size f := ⟨by simp [h0], by simp [h1], by simp [h2], by simp [h3], by simp [h4]⟩
theorem r5_no (w : World) (x : Nat) (h : ¬ pOk x = true) : R5 (w.alloc (.cells #[.int .i64 0, .int .i64 0, .int .i64 0, .int .i64 0, .int .i64 0] 3)) w.heap.size (p5 x) :=
  R5.new w 0 0 0 0 0 _ (if_neg h) (if_neg h) (if_neg h) (if_neg h) (if_neg h)
theorem r5_ok (w : World) (x : Nat) (hx : x < 18446744073709551616) (h : pOk x = true) : R5 (w.alloc (.cells #[.int .i64 (pOp x), .int .i64 (wrap64 (bits .and .u64 ((x : Int) / 4503599627370496) 15)), .int .i64 (wrap64 (bits .and .u64 ((x : Int) / 281474976710656) 15)), .int .i64 (wrap64 (bits .and .u64 ((x : Int) / 17592186044416) 15)), .int .i64 (wrap64 (bits .and .u64 ((x : Int) / 1099511627776) 15))] 3)) w.heap.size (p5 x) :=
  R5.new w _ _ _ _ _ _ (if_pos h) ((if_pos h).trans (and15 x 52 hx _ rfl).symm) ((if_pos h).trans (and15 x 48 hx _ rfl).symm) ((if_pos h).trans (and15 x 44 hx _ rfl).symm) ((if_pos h).trans (and15 x 40 hx _ rfl).symm)
theorem nU_lo (x : Nat) (h : pOk x = true) (h3 : x % 4294967296 < 2147483648) : nU x = ((x % 4294967296 : Nat) : Int) := by
  unfold nU
  rw [if_pos h]
  have e : pN x = ((x % 4294967296 : Nat) : Int) := by unfold pN; omega
  rw [e]
  exact IntWalk.u64_in _ (by omega)
theorem nU_hi (x : Nat) (h : pOk x = true) (h3 : ¬ x % 4294967296 < 2147483648) : nU x = IntKind.u64.wrap (((x % 4294967296 : Nat) : Int) + 18446744069414584320) := by
  unfold nU
  rw [if_pos h]
  unfold pN
  simp [IntKind.wrap, IntKind.bits, IntKind.signed]
  omega
set_option maxHeartbeats 1000000 in
set_option maxRecDepth 100000 in
theorem rparts_walk (w : World) (x : Nat) (hx : x < 18446744073709551616) :
    Calls Tryd.prog 44 #[.int .u64 x] w fun e w' => ∃ q, e = .returned (.tuple #[.slice (some ⟨q, 0, none⟩) 5 5, .int .u64 (nU x), .bool (pOk x)]) ∧ R5 w' q (p5 x) ∧ Below w.heap.size w w' := by
  have R0 := Lib.hid (top8 x hx)
  have r1 := and255 x hx
  have r2 := lowX x hx
  have HP : Hid (pOk x = (decide (pOp x ≤ 35) && decide (pN0 x = 0))) := Lib.hid rfl
  have HX := Lib.hid hx
  have R1 := Lib.hid r1
  have R2 := Lib.hid r2
  clear hx r1 r2
  go_enter Tryd.func44, Tryd.ntmps44
  go_upto_region 2 with (fail)
  rw [R0.out]
  by_cases h1 : pOp x ≤ 35
  · have t1 : decide (35 < (pOp x : Int)) = false := by simp; omega
    by_cases h2 : pN0 x = 0
    · have t2 : (bits .and .u64 ((x : Int) / 4294967296) 255 != 0) = false := by rw [R1.out, h2]; rfl
      have HK : Hid (pOk x = true) := Lib.hid (by rw [HP.out]; simp [h1, h2])
      clear h1 h2
      by_cases h3 : x % 4294967296 < 2147483648
      · have t3 : decide (2147483648 ≤ bits .and .u64 (x : Int) 4294967295) = false := by rw [R2.out]; simp; omega
        have H3 := Lib.hid h3
        clear h3
        go_wp2_with (fail)
        refine bodyPost_ret (v := .tuple #[.slice (some ⟨w.heap.size, 0, none⟩) 5 5, .int .u64 (nU x), .bool (pOk x)]) ?_ rfl ⟨w.heap.size, rfl, r5_ok w x HX.out HK.out, (Below.refl _ _).alloc (Nat.le_refl _) _⟩
        rw [nU_lo x HK.out H3.out, HK.out, R2.out]
        simp [results, Tryd.results44, go_sem]
      · have t3 : decide (2147483648 ≤ bits .and .u64 (x : Int) 4294967295) = true := by rw [R2.out]; simp; omega
        have H3 := Lib.hid h3
        clear h3
        go_wp2_with (fail)
        refine bodyPost_ret (v := .tuple #[.slice (some ⟨w.heap.size, 0, none⟩) 5 5, .int .u64 (nU x), .bool (pOk x)]) ?_ rfl ⟨w.heap.size, rfl, r5_ok w x HX.out HK.out, (Below.refl _ _).alloc (Nat.le_refl _) _⟩
        rw [nU_hi x HK.out H3.out, HK.out, R2.out]
        simp [results, Tryd.results44, go_sem]
    · have t2 : (bits .and .u64 ((x : Int) / 4294967296) 255 != 0) = true := by rw [R1.out]; simp; omega
      have HK : Hid (¬ pOk x = true) := Lib.hid (by rw [HP.out]; simp [h2])
      clear h1 h2
      go_wp2_with (fail)
      refine bodyPost_ret (v := .tuple #[.slice (some ⟨w.heap.size, 0, none⟩) 5 5, .int .u64 (nU x), .bool (pOk x)]) ?_ rfl ⟨w.heap.size, rfl, r5_no w x HK.out, (Below.refl _ _).alloc (Nat.le_refl _) _⟩
      rw [show nU x = 0 from if_neg HK.out, show pOk x = false by simpa using HK.out]
      simp [results, Tryd.results44, go_sem]
  · have t1 : decide (35 < (pOp x : Int)) = true := by simp; omega
    have HK : Hid (¬ pOk x = true) := Lib.hid (by rw [HP.out]; simp [h1])
    clear h1
    go_wp2_with (fail)
    refine bodyPost_ret (v := .tuple #[.slice (some ⟨w.heap.size, 0, none⟩) 5 5, .int .u64 (nU x), .bool (pOk x)]) ?_ rfl ⟨w.heap.size, rfl, r5_no w x HK.out, (Below.refl _ _).alloc (Nat.le_refl _) _⟩
    rw [show nU x = 0 from if_neg HK.out, show pOk x = false by simpa using HK.out]
    simp [results, Tryd.results44, go_sem]
end Vm
end Go.Proofs.YtdmffnjbholkkaaDoor
