/- Merged. Own work. -/
import Derived.Test.YtdmffnjbholkkaaDoorErr
import Derived.Test.YtdmffnjbholkkaaDoorRow
import Derived.Test.YtdmffnjbholkkaaDoorQin
import Derived.Laws.BitsAllLaws
import Derived.IntWalk
import Derived.BigQuiet
import Derived.Deep.QuietTactic
import Derived.Deep.Cut
import Derived.Lib.Hide
import Derived.Outline
import Derived.Deep.Slices
import Derived.Test.YtdmffnjbholkkaaDoorZh
import Derived.Test.YtdmffnjbholkkaaDoorOz
import Derived.StillTailTactics
import Derived.Test.YtdmffnjbholkkaaDoorApp
namespace Go.Proofs.YtdmffnjbholkkaaDoor
open Go.RowKit
set_option linter.unusedVariables false
set_option linter.unusedSimpArgs false
namespace Vm
def pOp (x : Nat) : Nat := x / 2 ^ 56 % 256
def pN0 (x : Nat) : Nat := x / 2 ^ 32 % 256
def pD (x : Nat) : Nat := x / 2 ^ 52 % 16
def pA (x : Nat) : Nat := x / 2 ^ 48 % 16
def pB (x : Nat) : Nat := x / 2 ^ 44 % 16
def pC (x : Nat) : Nat := x / 2 ^ 40 % 16
/-- The number, as 32 bits with a sign. -/
def pN (x : Nat) : Int := ((x : Int) + 2147483648) % 4294967296 - 2147483648
def pOk (x : Nat) : Bool := decide (pOp x ≤ 35) && decide (pN0 x = 0)
/-- What Parts answers. -/
def partsV (x : Nat) : Value :=
  if pOk x = true then .tuple #[.int .i64 (pOp x), .int .i64 (pD x), .int .i64 (pA x), .int .i64 (pB x), .int .i64 (pC x), .int .i64 (pN x), .bool true]
  else .tuple #[.int .i64 0, .int .i64 0, .int .i64 0, .int .i64 0, .int .i64 0, .int .i64 0, .bool false]
theorem cut_walk (w : World) (q : Nat) (x : Nat) (k j : Nat) (hx : x < 18446744073709551616) (hk : k < 64) (hj : j ≤ 8) (k0 : w.cell? ⟨q, 0, none⟩ = some (.int .u64 x)) :
    Calls Tryd.prog 66 #[.int .u64 k, .int .u64 ((2 ^ j - 1 : Nat) : Int), .pointer (some ⟨q, 0, none⟩)] w fun e w' => e = .returned (.int .i64 ((x / 2 ^ k % 2 ^ j : Nat) : Int)) ∧ w = w' := by
  have hp : 2 ^ j ≤ 2 ^ 8 := Nat.pow_le_pow_right (by decide) hj
  have hpp : 0 < 2 ^ j := Nat.pow_pos (by decide)
  have hle : x / 2 ^ k ≤ x := Nat.div_le_self _ _
  have hb := u64_and_nat (x / 2 ^ k) (2 ^ j - 1) (by omega) (by omega)
  rw [Nat.and_two_pow_sub_one_eq_mod] at hb
  have hc : ((x / 2 ^ k : Nat) : Int) = (x : Int) / 2 ^ k := by rw [Int.natCast_ediv, Int.natCast_pow]; rfl
  have hw : wrap64 (((x / 2 ^ k % 2 ^ j : Nat)) : Int) = ((x / 2 ^ k % 2 ^ j : Nat) : Int) := by
    have := Nat.mod_lt (x / 2 ^ k) hpp
    generalize x / 2 ^ k % 2 ^ j = z at *
    unfold wrap64; omega
  rw [hc] at hb
  have HB := Lib.hid hb
  have HW := Lib.hid hw
  clear hb hw hc hle hpp hp
  generalize ((2 ^ j - 1 : Nat) : Int) = M at *
  generalize ((x / 2 ^ k % 2 ^ j : Nat) : Int) = R at *
  go_enter Tryd.func66, Tryd.ntmps66
  go_wp2_with (fail)
  rw [HB.out, HW.out]
  go_ret
  exact ⟨rfl, rfl⟩
theorem cut255 (w : World) (q x k : Nat) (hx : x < 18446744073709551616) (hk : k < 64) (k0 : w.cell? ⟨q, 0, none⟩ = some (.int .u64 x)) :
    Calls Tryd.prog 66 #[.int .u64 k, .int .u64 255, .pointer (some ⟨q, 0, none⟩)] w fun e w' => e = .returned (.int .i64 ((x / 2 ^ k % 256 : Nat) : Int)) ∧ w = w' := cut_walk w q x k 8 hx hk (by decide) k0
theorem cut15 (w : World) (q x k : Nat) (hx : x < 18446744073709551616) (hk : k < 64) (k0 : w.cell? ⟨q, 0, none⟩ = some (.int .u64 x)) :
    Calls Tryd.prog 66 #[.int .u64 k, .int .u64 15, .pointer (some ⟨q, 0, none⟩)] w fun e w' => e = .returned (.int .i64 ((x / 2 ^ k % 16 : Nat) : Int)) ∧ w = w' := cut_walk w q x k 4 hx hk (by decide) k0
theorem c56 (w : World) (q x : Nat) (hx : x < 18446744073709551616) (k0 : w.cell? ⟨q, 0, none⟩ = some (.int .u64 x)) :
    Calls Tryd.prog 66 #[.int .u64 56, .int .u64 255, .pointer (some ⟨q, 0, none⟩)] w fun e w' => e = .returned (.int .i64 (pOp x : Int)) ∧ w = w' := cut255 w q x 56 hx (by decide) k0
theorem c32 (w : World) (q x : Nat) (hx : x < 18446744073709551616) (k0 : w.cell? ⟨q, 0, none⟩ = some (.int .u64 x)) :
    Calls Tryd.prog 66 #[.int .u64 32, .int .u64 255, .pointer (some ⟨q, 0, none⟩)] w fun e w' => e = .returned (.int .i64 (pN0 x : Int)) ∧ w = w' := cut255 w q x 32 hx (by decide) k0
theorem c52 (w : World) (q x : Nat) (hx : x < 18446744073709551616) (k0 : w.cell? ⟨q, 0, none⟩ = some (.int .u64 x)) :
    Calls Tryd.prog 66 #[.int .u64 52, .int .u64 15, .pointer (some ⟨q, 0, none⟩)] w fun e w' => e = .returned (.int .i64 (pD x : Int)) ∧ w = w' := cut15 w q x 52 hx (by decide) k0
theorem c48 (w : World) (q x : Nat) (hx : x < 18446744073709551616) (k0 : w.cell? ⟨q, 0, none⟩ = some (.int .u64 x)) :
    Calls Tryd.prog 66 #[.int .u64 48, .int .u64 15, .pointer (some ⟨q, 0, none⟩)] w fun e w' => e = .returned (.int .i64 (pA x : Int)) ∧ w = w' := cut15 w q x 48 hx (by decide) k0
theorem c44 (w : World) (q x : Nat) (hx : x < 18446744073709551616) (k0 : w.cell? ⟨q, 0, none⟩ = some (.int .u64 x)) :
    Calls Tryd.prog 66 #[.int .u64 44, .int .u64 15, .pointer (some ⟨q, 0, none⟩)] w fun e w' => e = .returned (.int .i64 (pB x : Int)) ∧ w = w' := cut15 w q x 44 hx (by decide) k0
theorem c40 (w : World) (q x : Nat) (hx : x < 18446744073709551616) (k0 : w.cell? ⟨q, 0, none⟩ = some (.int .u64 x)) :
    Calls Tryd.prog 66 #[.int .u64 40, .int .u64 15, .pointer (some ⟨q, 0, none⟩)] w fun e w' => e = .returned (.int .i64 (pC x : Int)) ∧ w = w' := cut15 w q x 40 hx (by decide) k0
/-- A world in which the box holds the word. -/
structure Bx (W : World) (q x : Nat) (y : World) : Prop where
  cell : y.cell? ⟨q, 0, none⟩ = some (.int .u64 x)
  below : Below W.heap.size W y
set_option maxHeartbeats 1000000 in
set_option maxRecDepth 100000 in
theorem parts_walk (w : World) (x : Nat) (hx : x < 18446744073709551616) :
    Calls Tryd.prog 45 #[.int .u64 x] w fun e w' => e = .returned (partsV x) ∧ Below w.heap.size w w' := by
  have HB : Hid (Bx w w.heap.size x (w.alloc (.cells #[.int .u64 x] 78))) := Lib.hid ⟨by simp, (Below.refl _ _).alloc (Nat.le_refl _) _⟩
  have HX := Lib.hid hx
  clear hx
  have hv : Hid (partsV x = if pOk x = true then .tuple #[.int .i64 (pOp x), .int .i64 (pD x), .int .i64 (pA x), .int .i64 (pB x), .int .i64 (pC x), .int .i64 (pN x), .bool true]
    else .tuple #[.int .i64 0, .int .i64 0, .int .i64 0, .int .i64 0, .int .i64 0, .int .i64 0, .bool false]) := Lib.hid rfl
  have HP : Hid (pOk x = (decide (pOp x ≤ 35) && decide (pN0 x = 0))) := Lib.hid rfl
  have H56 := Lib.hid (fun z : Wd (Bx w w.heap.size x) => in_of_same z (Calls.mono (c56 z.val w.heap.size x HX.out z.ok.cell) fun e w' h => h))
  have H52 := Lib.hid (fun z : Wd (Bx w w.heap.size x) => in_of_same z (c52 z.val w.heap.size x HX.out z.ok.cell))
  have H48 := Lib.hid (fun z : Wd (Bx w w.heap.size x) => in_of_same z (c48 z.val w.heap.size x HX.out z.ok.cell))
  have H44 := Lib.hid (fun z : Wd (Bx w w.heap.size x) => in_of_same z (c44 z.val w.heap.size x HX.out z.ok.cell))
  have H40 := Lib.hid (fun z : Wd (Bx w w.heap.size x) => in_of_same z (c40 z.val w.heap.size x HX.out z.ok.cell))
  have C56 := Lib.hid (c56 _ w.heap.size x HX.out HB.out.cell)
  have C32 := Lib.hid (c32 _ w.heap.size x HX.out HB.out.cell)
  have HN : Hid (wrap64 (wrap32 (x : Int)) = pN x) := Lib.hid (by unfold pN wrap64 wrap32; omega)
  go_enter Tryd.func45, Tryd.ntmps45
  go_upto_region 2 with (fail)
  generalize w.alloc (.cells #[.int .u64 x] 78) = y at *
  go_upto_region 3 with (go_at_call 66; (with_reducible refine C56.out.mono ?_); rintro e y1 ⟨he, hy⟩; obtain rfl : e = _ := he; subst hy)
  by_cases h1 : pOp x ≤ 35
  · by_cases h2 : pN0 x = 0
    · have t1 : decide (35 < (pOp x : Int)) = false := by simp; omega
      have t2 : ((pN0 x : Int) != 0) = false := by simp [h2]
      have HK : Hid (pOk x = true) := Lib.hid (by rw [HP.out]; simp [h1, h2])
      clear h1 h2
      go_upto_region 5 with (go_at_call 66; (with_reducible refine C32.out.mono ?_); rintro e y1 ⟨he, hy⟩; obtain rfl : e = _ := he; subst hy)
      have NE : Nonempty (Wd (Bx w w.heap.size x)) := ⟨⟨_, HB.out⟩⟩
      have k0 : ∀ z : Wd (Bx w w.heap.size x), z.val.cell? ⟨w.heap.size, 0, none⟩ = some (.int .u64 x) := fun z => z.ok.cell
      refine wp_region_in (Bx w w.heap.size x) (by kernel_rfl) (by kernel_rfl) ⟨HB.out.cell, HB.out.below.drew⟩ ?_
      repeat (go_big_quiet_step (first | with_reducible exact H52.out _ | with_reducible exact H48.out _ | with_reducible exact H44.out _ | with_reducible exact H40.out _))
      refine wpQuiet_nil ?_
      rintro y2 ⟨z, rfl⟩
      go_wp2_with (fail)
      rw [HN.out]
      refine bodyPost_ret (v := partsV x) ?_ rfl ⟨rfl, z.ok.below⟩
      rw [hv.out, if_pos HK.out]
      simp [results, Tryd.results45, go_sem]
    · have t1 : decide (35 < (pOp x : Int)) = false := by simp; omega
      have t2 : ((pN0 x : Int) != 0) = true := by simp; omega
      have HK : Hid (¬ pOk x = true) := Lib.hid (by rw [HP.out]; simp [h2])
      clear h1 h2
      go_wp2_with (go_at_call 66; (with_reducible refine C32.out.mono ?_); rintro e y1 ⟨he, hy⟩; obtain rfl : e = _ := he; subst hy)
      refine bodyPost_ret (v := partsV x) ?_ rfl ⟨rfl, HB.out.below⟩
      rw [hv.out, if_neg HK.out]
      simp [results, Tryd.results45, go_sem]
  · have t1 : decide (35 < (pOp x : Int)) = true := by simp; omega
    have HK : Hid (¬ pOk x = true) := Lib.hid (by rw [HP.out]; simp [h1])
    clear h1
    go_wp2_with (fail)
    refine bodyPost_ret (v := partsV x) ?_ rfl ⟨rfl, HB.out.below⟩
    rw [hv.out, if_neg HK.out]
    simp [results, Tryd.results45, go_sem]
end Vm
end Go.Proofs.YtdmffnjbholkkaaDoor
namespace Go.Proofs.YtdmffnjbholkkaaDoor
open Go.RowKit
set_option linter.unusedVariables false
set_option linter.unusedSimpArgs false
section
variable {P : Program}
theorem wpList_indexE {ops : Array Oper} {rest : List Oper} {o : Oper} {a : Act} {w : World} {Q : Exit → Act → World → Prop} (hg : o.guard = none) (ty : TypeId) (x i : Operand) (ho : o.op = .index ty x i) (vx vi v : Value) (hx : a.eval x = vx) (hi : a.eval i = vi)
    (hl : (Instr.index ty vx vi).run P w = .ok v w) (h : wpList P ops Q rest (a.put o.dst v) w) : wpList P ops Q (o :: rest) a w :=
  wpList_plain hg fun _ hK => by
    unfold Oper.wp execOp
    simp only [ho, hx, hi]
    simp [hl, Result.andThen]
    exact hK _ _ h
end
namespace Vm
/-- Is a register one? -/
def gd (x : Int) : Prop := 0 ≤ x ∧ x ≤ 15
instance (x : Int) : Decidable (gd x) := by unfold gd; infer_instance
/-- Are these an instruction's parts? -/
def codeOk (op d a b c n : Int) : Prop := (0 ≤ op ∧ op ≤ 35 ∧ -2147483648 ≤ n ∧ n < 2147483648) ∧ gd d ∧ gd a ∧ gd b ∧ gd c
instance (op d a b c n : Int) : Decidable (codeOk op d a b c n) := by unfold codeOk; infer_instance
def codeW (op d a b c n : Int) : Int := op * 72057594037927936 + d * 4503599627370496 + a * 281474976710656 + b * 17592186044416 + c * 1099511627776 + n % 4294967296
def r4 (d a b c : Int) : Nat → Int
  | 0 => d
  | 1 => a
  | 2 => b
  | _ => c
def codeV (op d a b c n : Int) : Value := if codeOk op d a b c n then .tuple #[.int .u64 (codeW op d a b c n), .nilIface] else .tuple #[.int .u64 0, .iface 62 (.int .i64 2)]
/-- Two numbers whose bits do not meet. -/
theorem or_sum (x y k : Nat) (hx : x % 2 ^ k = 0) (hy : y < 2 ^ k) : x ||| y = x + y := by
  have h1 := Nat.div_add_mod x (2 ^ k)
  rw [hx, Nat.add_zero] at h1
  rw [← h1, Nat.mul_comm, ← Nat.shiftLeft_eq, Nat.shiftLeft_add_eq_or_of_lt hy]
theorem or_u64 (x y k : Nat) (hx : x % 2 ^ k = 0) (hy : y < 2 ^ k) (hxb : x < 18446744073709551616) (hyb : y < 18446744073709551616) : bits .or .u64 (x : Int) (y : Int) = ((x + y : Nat) : Int) := by
  rw [u64_or_nat x y hxb hyb, or_sum x y k hx hy]
/-- The parts, laid into one word. -/
theorem code_word (op d a b c n : Int) (h : codeOk op d a b c n) :
    bits .or .u64 (bits .or .u64 (bits .or .u64 (bits .or .u64 (bits .or .u64 (op * 72057594037927936) (d * 4503599627370496)) (a * 281474976710656)) (b * 17592186044416)) (c * 1099511627776)) (n % 4294967296) = codeW op d a b c n := by
  obtain ⟨⟨h1, h2, h3, h4⟩, ⟨d1, d2⟩, ⟨a1, a2⟩, ⟨b1, b2⟩, ⟨c1, c2⟩⟩ := h
  obtain ⟨o, rfl⟩ := Int.eq_ofNat_of_zero_le h1
  obtain ⟨d, rfl⟩ := Int.eq_ofNat_of_zero_le d1
  obtain ⟨a, rfl⟩ := Int.eq_ofNat_of_zero_le a1
  obtain ⟨b, rfl⟩ := Int.eq_ofNat_of_zero_le b1
  obtain ⟨c, rfl⟩ := Int.eq_ofNat_of_zero_le c1
  obtain ⟨m, hm⟩ := Int.eq_ofNat_of_zero_le (show 0 ≤ n % 4294967296 by omega)
  unfold codeW
  rw [hm]
  have hmb : m < 4294967296 := by omega
  have e1 : ((o : Nat) : Int) * 72057594037927936 = ((o * 72057594037927936 : Nat) : Int) := by omega
  have e2 : ((d : Nat) : Int) * 4503599627370496 = ((d * 4503599627370496 : Nat) : Int) := by omega
  have e3 : ((a : Nat) : Int) * 281474976710656 = ((a * 281474976710656 : Nat) : Int) := by omega
  have e4 : ((b : Nat) : Int) * 17592186044416 = ((b * 17592186044416 : Nat) : Int) := by omega
  have e5 : ((c : Nat) : Int) * 1099511627776 = ((c * 1099511627776 : Nat) : Int) := by omega
  rw [e1, e2, e3, e4, e5]
  rw [or_u64 _ _ 56 (by omega) (by omega) (by omega) (by omega), or_u64 _ _ 52 (by omega) (by omega) (by omega) (by omega), or_u64 _ _ 48 (by omega) (by omega) (by omega) (by omega), or_u64 _ _ 44 (by omega) (by omega) (by omega) (by omega), or_u64 _ _ 40 (by omega) (by omega) (by omega) (by omega)]
  omega
theorem wrap_part (x m : Int) (h0 : 0 ≤ x ∧ x ≤ 35) (h1 : 0 ≤ x * m ∧ x * m < 18446744073709551616) : IntKind.u64.wrap (IntKind.u64.wrap x * m) = x * m := by
  have e1 : IntKind.u64.wrap x = x := IntWalk.u64_in _ (by omega)
  rw [e1]
  exact IntWalk.u64_in _ (by omega)
theorem ix0 (d a b c : Int) (w : World) : (Instr.index 150 (.agg #[.int .i64 d, .int .i64 a, .int .i64 b, .int .i64 c]) (.int .i64 (0 : Nat))).run Tryd.prog w = .ok (.int .i64 d) w := by kernel_rfl
theorem ix1 (d a b c : Int) (w : World) : (Instr.index 150 (.agg #[.int .i64 d, .int .i64 a, .int .i64 b, .int .i64 c]) (.int .i64 (1 : Nat))).run Tryd.prog w = .ok (.int .i64 a) w := by kernel_rfl
theorem ix2 (d a b c : Int) (w : World) : (Instr.index 150 (.agg #[.int .i64 d, .int .i64 a, .int .i64 b, .int .i64 c]) (.int .i64 (2 : Nat))).run Tryd.prog w = .ok (.int .i64 b) w := by kernel_rfl
theorem ix3 (d a b c : Int) (w : World) : (Instr.index 150 (.agg #[.int .i64 d, .int .i64 a, .int .i64 b, .int .i64 c]) (.int .i64 (3 : Nat))).run Tryd.prog w = .ok (.int .i64 c) w := by kernel_rfl
set_option maxHeartbeats 1000000 in
set_option maxRecDepth 100000 in
theorem code_walk (w : World) (op d a b c n : Int) :
    Calls Tryd.prog 42 #[.int .i64 op, .int .i64 d, .int .i64 a, .int .i64 b, .int .i64 c, .int .i64 n] w fun e w' => e = .returned (codeV op d a b c n) ∧ w = w' := by
  have HV : Hid (codeV op d a b c n = if codeOk op d a b c n then .tuple #[.int .u64 (codeW op d a b c n), .nilIface] else .tuple #[.int .u64 0, .iface 62 (.int .i64 2)]) := Lib.hid rfl
  by_cases h1 : 0 ≤ op ∧ op ≤ 35 ∧ -2147483648 ≤ n ∧ n < 2147483648
  · have t1 : decide (op < 0) = false := by simp; omega
    have t2 : decide (35 < op) = false := by simp; omega
    have t3 : decide (n < -2147483648) = false := by simp; omega
    have t4 : decide (2147483648 ≤ n) = false := by simp; omega
    have H1 := Lib.hid h1
    clear h1
    go_enter Tryd.func42, Tryd.ntmps42
    go_upto_region 4 with (fail)
    clear t1 t2 t3 t4
    go_loopw [36] (fun t y => ∃ k : Nat, k ≤ 4 ∧ t = .int .i64 k ∧ Hid ((∀ i, i < k → gd (r4 d a b c i)) ∧ w = y)) (fun t _ => 4 - (intOf t).toNat)
    case atStart => exact ⟨0, by decide, rfl, Lib.hid ⟨fun i hi => by omega, rfl⟩⟩
    case round =>
      obtain ⟨k, hk, rfl, hp⟩ := hrel
      have HP := Lib.hid hp.out.1
      obtain rfl := hp.out.2
      clear hp
      by_cases h4 : k = 4
      · subst h4
        have hok : codeOk op d a b c n := ⟨H1.out, HP.out 0 (by decide), HP.out 1 (by decide), HP.out 2 (by decide), HP.out 3 (by decide)⟩
        have HC := Lib.hid (code_word op d a b c n hok)
        have HE := Lib.hid hok
        clear hok hk
        go_wp2_with (fail)
        refine bodyPost_ret (v := codeV op d a b c n) ?_ rfl ⟨rfl, rfl⟩
        rw [HV.out, if_pos HE.out, ← HC.out]
        have hh := HE.out
        unfold codeOk gd at hh
        have w0 := wrap_part op 72057594037927936 (by omega) (by omega)
        have w1 := wrap_part d 4503599627370496 (by omega) (by omega)
        have w2 := wrap_part a 281474976710656 (by omega) (by omega)
        have w3 := wrap_part b 17592186044416 (by omega) (by omega)
        have w4 := wrap_part c 1099511627776 (by omega) (by omega)
        rw [w0, w1, w2, w3, w4]
        simp [results, Tryd.results42, go_sem]
      · have hk3 : k = 0 ∨ k = 1 ∨ k = 2 ∨ k = 3 := by omega
        clear h4 hk
        rcases hk3 with rfl | rfl | rfl | rfl
        · have HIX := Lib.hid (ix0 d a b c w)
          by_cases hg : gd d
          · have t5 : decide (d < 0) = false := by have := hg.1; simp; omega
            have t6 : decide (15 < d) = false := by have := hg.2; simp; omega
            have HG := Lib.hid hg
            clear hg
            go_wp2_with ((with_reducible refine wpList_indexE (P := Tryd.prog) (w := w) ?_ 150 (.tmp 35) (.tmp 36) ?_ (.agg #[.int .i64 d, .int .i64 a, .int .i64 b, .int .i64 c]) (.int .i64 (0 : Nat)) (.int .i64 d) ?_ ?_ HIX.out ?_); (· exact rfl); (· exact rfl); (· exact rfl); (· exact rfl))
            go_roundw
            case rel => exact ⟨1, by decide, rfl, Lib.hid ⟨fun i hi => by
              by_cases e : i = 0
              · subst e; exact HG.out
              · exact HP.out i (by omega), trivial⟩⟩
            case measure => simp [intOf]
          · have hno : ¬ codeOk op d a b c n := fun h => hg h.2.1
            have HNO := Lib.hid hno
            by_cases h0 : d < 0
            · have t5 : decide (d < 0) = true := by simpa using h0
              clear hg hno h0
              go_wp2_with ((with_reducible refine wpList_indexE (P := Tryd.prog) (w := w) ?_ 150 (.tmp 35) (.tmp 36) ?_ (.agg #[.int .i64 d, .int .i64 a, .int .i64 b, .int .i64 c]) (.int .i64 (0 : Nat)) (.int .i64 d) ?_ ?_ HIX.out ?_); (· exact rfl); (· exact rfl); (· exact rfl); (· exact rfl))
              refine bodyPost_ret (v := codeV op d a b c n) ?_ rfl ⟨rfl, rfl⟩
              rw [HV.out, if_neg HNO.out]
              simp [results, Tryd.results42, go_sem]
            · have t5 : decide (d < 0) = false := by simpa using h0
              have t6 : decide (15 < d) = true := by simp; unfold gd at hg; omega
              clear hg hno h0
              go_wp2_with ((with_reducible refine wpList_indexE (P := Tryd.prog) (w := w) ?_ 150 (.tmp 35) (.tmp 36) ?_ (.agg #[.int .i64 d, .int .i64 a, .int .i64 b, .int .i64 c]) (.int .i64 (0 : Nat)) (.int .i64 d) ?_ ?_ HIX.out ?_); (· exact rfl); (· exact rfl); (· exact rfl); (· exact rfl))
              refine bodyPost_ret (v := codeV op d a b c n) ?_ rfl ⟨rfl, rfl⟩
              rw [HV.out, if_neg HNO.out]
              simp [results, Tryd.results42, go_sem]
        · have HIX := Lib.hid (ix1 d a b c w)
          by_cases hg : gd a
          · have t5 : decide (a < 0) = false := by have := hg.1; simp; omega
            have t6 : decide (15 < a) = false := by have := hg.2; simp; omega
            have HG := Lib.hid hg
            clear hg
            go_wp2_with ((with_reducible refine wpList_indexE (P := Tryd.prog) (w := w) ?_ 150 (.tmp 35) (.tmp 36) ?_ (.agg #[.int .i64 d, .int .i64 a, .int .i64 b, .int .i64 c]) (.int .i64 (1 : Nat)) (.int .i64 a) ?_ ?_ HIX.out ?_); (· exact rfl); (· exact rfl); (· exact rfl); (· exact rfl))
            go_roundw
            case rel => exact ⟨2, by decide, rfl, Lib.hid ⟨fun i hi => by
              by_cases e : i = 1
              · subst e; exact HG.out
              · exact HP.out i (by omega), trivial⟩⟩
            case measure => simp [intOf]
          · have hno : ¬ codeOk op d a b c n := fun h => hg h.2.2.1
            have HNO := Lib.hid hno
            by_cases h0 : a < 0
            · have t5 : decide (a < 0) = true := by simpa using h0
              clear hg hno h0
              go_wp2_with ((with_reducible refine wpList_indexE (P := Tryd.prog) (w := w) ?_ 150 (.tmp 35) (.tmp 36) ?_ (.agg #[.int .i64 d, .int .i64 a, .int .i64 b, .int .i64 c]) (.int .i64 (1 : Nat)) (.int .i64 a) ?_ ?_ HIX.out ?_); (· exact rfl); (· exact rfl); (· exact rfl); (· exact rfl))
              refine bodyPost_ret (v := codeV op d a b c n) ?_ rfl ⟨rfl, rfl⟩
              rw [HV.out, if_neg HNO.out]
              simp [results, Tryd.results42, go_sem]
            · have t5 : decide (a < 0) = false := by simpa using h0
              have t6 : decide (15 < a) = true := by simp; unfold gd at hg; omega
              clear hg hno h0
              go_wp2_with ((with_reducible refine wpList_indexE (P := Tryd.prog) (w := w) ?_ 150 (.tmp 35) (.tmp 36) ?_ (.agg #[.int .i64 d, .int .i64 a, .int .i64 b, .int .i64 c]) (.int .i64 (1 : Nat)) (.int .i64 a) ?_ ?_ HIX.out ?_); (· exact rfl); (· exact rfl); (· exact rfl); (· exact rfl))
              refine bodyPost_ret (v := codeV op d a b c n) ?_ rfl ⟨rfl, rfl⟩
              rw [HV.out, if_neg HNO.out]
              simp [results, Tryd.results42, go_sem]
        · have HIX := Lib.hid (ix2 d a b c w)
          by_cases hg : gd b
          · have t5 : decide (b < 0) = false := by have := hg.1; simp; omega
            have t6 : decide (15 < b) = false := by have := hg.2; simp; omega
            have HG := Lib.hid hg
            clear hg
            go_wp2_with ((with_reducible refine wpList_indexE (P := Tryd.prog) (w := w) ?_ 150 (.tmp 35) (.tmp 36) ?_ (.agg #[.int .i64 d, .int .i64 a, .int .i64 b, .int .i64 c]) (.int .i64 (2 : Nat)) (.int .i64 b) ?_ ?_ HIX.out ?_); (· exact rfl); (· exact rfl); (· exact rfl); (· exact rfl))
            go_roundw
            case rel => exact ⟨3, by decide, rfl, Lib.hid ⟨fun i hi => by
              by_cases e : i = 2
              · subst e; exact HG.out
              · exact HP.out i (by omega), trivial⟩⟩
            case measure => simp [intOf]
          · have hno : ¬ codeOk op d a b c n := fun h => hg h.2.2.2.1
            have HNO := Lib.hid hno
            by_cases h0 : b < 0
            · have t5 : decide (b < 0) = true := by simpa using h0
              clear hg hno h0
              go_wp2_with ((with_reducible refine wpList_indexE (P := Tryd.prog) (w := w) ?_ 150 (.tmp 35) (.tmp 36) ?_ (.agg #[.int .i64 d, .int .i64 a, .int .i64 b, .int .i64 c]) (.int .i64 (2 : Nat)) (.int .i64 b) ?_ ?_ HIX.out ?_); (· exact rfl); (· exact rfl); (· exact rfl); (· exact rfl))
              refine bodyPost_ret (v := codeV op d a b c n) ?_ rfl ⟨rfl, rfl⟩
              rw [HV.out, if_neg HNO.out]
              simp [results, Tryd.results42, go_sem]
            · have t5 : decide (b < 0) = false := by simpa using h0
              have t6 : decide (15 < b) = true := by simp; unfold gd at hg; omega
              clear hg hno h0
              go_wp2_with ((with_reducible refine wpList_indexE (P := Tryd.prog) (w := w) ?_ 150 (.tmp 35) (.tmp 36) ?_ (.agg #[.int .i64 d, .int .i64 a, .int .i64 b, .int .i64 c]) (.int .i64 (2 : Nat)) (.int .i64 b) ?_ ?_ HIX.out ?_); (· exact rfl); (· exact rfl); (· exact rfl); (· exact rfl))
              refine bodyPost_ret (v := codeV op d a b c n) ?_ rfl ⟨rfl, rfl⟩
              rw [HV.out, if_neg HNO.out]
              simp [results, Tryd.results42, go_sem]
        · have HIX := Lib.hid (ix3 d a b c w)
          by_cases hg : gd c
          · have t5 : decide (c < 0) = false := by have := hg.1; simp; omega
            have t6 : decide (15 < c) = false := by have := hg.2; simp; omega
            have HG := Lib.hid hg
            clear hg
            go_wp2_with ((with_reducible refine wpList_indexE (P := Tryd.prog) (w := w) ?_ 150 (.tmp 35) (.tmp 36) ?_ (.agg #[.int .i64 d, .int .i64 a, .int .i64 b, .int .i64 c]) (.int .i64 (3 : Nat)) (.int .i64 c) ?_ ?_ HIX.out ?_); (· exact rfl); (· exact rfl); (· exact rfl); (· exact rfl))
            go_roundw
            case rel => exact ⟨4, by decide, rfl, Lib.hid ⟨fun i hi => by
              by_cases e : i = 3
              · subst e; exact HG.out
              · exact HP.out i (by omega), trivial⟩⟩
            case measure => simp [intOf]
          · have hno : ¬ codeOk op d a b c n := fun h => hg h.2.2.2.2
            have HNO := Lib.hid hno
            by_cases h0 : c < 0
            · have t5 : decide (c < 0) = true := by simpa using h0
              clear hg hno h0
              go_wp2_with ((with_reducible refine wpList_indexE (P := Tryd.prog) (w := w) ?_ 150 (.tmp 35) (.tmp 36) ?_ (.agg #[.int .i64 d, .int .i64 a, .int .i64 b, .int .i64 c]) (.int .i64 (3 : Nat)) (.int .i64 c) ?_ ?_ HIX.out ?_); (· exact rfl); (· exact rfl); (· exact rfl); (· exact rfl))
              refine bodyPost_ret (v := codeV op d a b c n) ?_ rfl ⟨rfl, rfl⟩
              rw [HV.out, if_neg HNO.out]
              simp [results, Tryd.results42, go_sem]
            · have t5 : decide (c < 0) = false := by simpa using h0
              have t6 : decide (15 < c) = true := by simp; unfold gd at hg; omega
              clear hg hno h0
              go_wp2_with ((with_reducible refine wpList_indexE (P := Tryd.prog) (w := w) ?_ 150 (.tmp 35) (.tmp 36) ?_ (.agg #[.int .i64 d, .int .i64 a, .int .i64 b, .int .i64 c]) (.int .i64 (3 : Nat)) (.int .i64 c) ?_ ?_ HIX.out ?_); (· exact rfl); (· exact rfl); (· exact rfl); (· exact rfl))
              refine bodyPost_ret (v := codeV op d a b c n) ?_ rfl ⟨rfl, rfl⟩
              rw [HV.out, if_neg HNO.out]
              simp [results, Tryd.results42, go_sem]
  · have hno : ¬ codeOk op d a b c n := fun h => h1 h.1
    have HNO := Lib.hid hno
    have h5 : op < 0 ∨ (0 ≤ op ∧ 35 < op) ∨ (0 ≤ op ∧ op ≤ 35 ∧ n < -2147483648) ∨ (0 ≤ op ∧ op ≤ 35 ∧ -2147483648 ≤ n ∧ 2147483648 ≤ n) := by omega
    clear h1 hno
    rcases h5 with h5 | h5 | h5 | h5
    · have t1 : decide (op < 0) = true := by simpa using h5
      clear h5
      go_enter Tryd.func42, Tryd.ntmps42
      go_wp2_with (fail)
      refine bodyPost_ret (v := codeV op d a b c n) ?_ rfl ⟨rfl, rfl⟩
      rw [HV.out, if_neg HNO.out]
      simp [results, Tryd.results42, go_sem]
    · have t1 : decide (op < 0) = false := by simp; omega
      have t2 : decide (35 < op) = true := by simp; omega
      clear h5
      go_enter Tryd.func42, Tryd.ntmps42
      go_wp2_with (fail)
      refine bodyPost_ret (v := codeV op d a b c n) ?_ rfl ⟨rfl, rfl⟩
      rw [HV.out, if_neg HNO.out]
      simp [results, Tryd.results42, go_sem]
    · have t1 : decide (op < 0) = false := by simp; omega
      have t2 : decide (35 < op) = false := by simp; omega
      have t3 : decide (n < -2147483648) = true := by simp; omega
      clear h5
      go_enter Tryd.func42, Tryd.ntmps42
      go_wp2_with (fail)
      refine bodyPost_ret (v := codeV op d a b c n) ?_ rfl ⟨rfl, rfl⟩
      rw [HV.out, if_neg HNO.out]
      simp [results, Tryd.results42, go_sem]
    · have t1 : decide (op < 0) = false := by simp; omega
      have t2 : decide (35 < op) = false := by simp; omega
      have t3 : decide (n < -2147483648) = false := by simp; omega
      have t4 : decide (2147483648 ≤ n) = true := by simp; omega
      clear h5
      go_enter Tryd.func42, Tryd.ntmps42
      go_wp2_with (fail)
      refine bodyPost_ret (v := codeV op d a b c n) ?_ rfl ⟨rfl, rfl⟩
      rw [HV.out, if_neg HNO.out]
      simp [results, Tryd.results42, go_sem]
end Vm
end Go.Proofs.YtdmffnjbholkkaaDoor
namespace Go.Proofs.YtdmffnjbholkkaaDoor
open Go.RowKit
set_option linter.unusedVariables false
set_option linter.unusedSimpArgs false
namespace Vm
def rAcc (op d a b c : Int) : Nat → Int
  | 0 => IntKind.u64.wrap op
  | k + 1 => IntKind.u64.wrap (IntKind.u64.wrap (rAcc op d a b c k * 16) + IntKind.u64.wrap (r4 d a b c k))
def codeR (op d a b c n : Int) : Value := if codeOk op d a b c n then .tuple #[.int .u64 (codeW op d a b c n), .int .i64 0] else .tuple #[.int .u64 0, .int .i64 2]
theorem and_low (n : Int) : bits .and .u64 (IntKind.u64.wrap n) 4294967295 = n % 4294967296 := by
  have e : IntKind.u64.wrap n = n % 18446744073709551616 := by simp [IntKind.wrap, IntKind.bits, IntKind.signed]
  rw [e]
  obtain ⟨m, hm⟩ := Int.eq_ofNat_of_zero_le (show 0 ≤ n % 18446744073709551616 by omega)
  have hb := u64_and_nat m (2 ^ 32 - 1) (by omega) (by omega)
  rw [Nat.and_two_pow_sub_one_eq_mod] at hb
  rw [hm]
  refine Eq.trans hb ?_
  omega
theorem rcode_word (op d a b c n : Int) (h : codeOk op d a b c n) : IntKind.u64.wrap (IntKind.u64.wrap (rAcc op d a b c 4 * 1099511627776) + n % 4294967296) = codeW op d a b c n := by
  unfold codeOk gd at h
  have u := fun z h => IntWalk.u64_in z h
  have e0 : rAcc op d a b c 0 = op := u _ (by omega)
  have e1 : rAcc op d a b c 1 = op * 16 + d := by
    unfold rAcc; rw [e0, u (op * 16) (by omega)]; rw [show r4 d a b c 0 = d from rfl, u d (by omega), u _ (by omega)]
  have e2 : rAcc op d a b c 2 = (op * 16 + d) * 16 + a := by
    unfold rAcc; rw [e1, u ((op * 16 + d) * 16) (by omega)]; rw [show r4 d a b c 1 = a from rfl, u a (by omega), u _ (by omega)]
  have e3 : rAcc op d a b c 3 = ((op * 16 + d) * 16 + a) * 16 + b := by
    unfold rAcc; rw [e2, u (((op * 16 + d) * 16 + a) * 16) (by omega)]; rw [show r4 d a b c 2 = b from rfl, u b (by omega), u _ (by omega)]
  have e4 : rAcc op d a b c 4 = (((op * 16 + d) * 16 + a) * 16 + b) * 16 + c := by
    unfold rAcc; rw [e3, u ((((op * 16 + d) * 16 + a) * 16 + b) * 16) (by omega)]; rw [show r4 d a b c 3 = c from rfl, u c (by omega), u _ (by omega)]
  rw [e4, u (((((op * 16 + d) * 16 + a) * 16 + b) * 16 + c) * 1099511627776) (by omega), u _ (by omega)]
  unfold codeW
  omega
structure Rw (W : World) (q : Nat) (d a b c : Int) (y : World) : Prop where
  k0 : y.cell? ⟨q, 0, none⟩ = some (.int .i64 d)
  k1 : y.cell? ⟨q, 1, none⟩ = some (.int .i64 a)
  k2 : y.cell? ⟨q, 2, none⟩ = some (.int .i64 b)
  k3 : y.cell? ⟨q, 3, none⟩ = some (.int .i64 c)
  below : Below W.heap.size W y
set_option maxHeartbeats 1000000 in
set_option maxRecDepth 100000 in
theorem rcode_walk (w : World) (op d a b c n : Int) :
    Calls Tryd.prog 43 #[.int .i64 op, .int .i64 d, .int .i64 a, .int .i64 b, .int .i64 c, .int .i64 n] w fun e w' => e = .returned (codeR op d a b c n) ∧ Below w.heap.size w w' := by
  have HV : Hid (codeR op d a b c n = if codeOk op d a b c n then .tuple #[.int .u64 (codeW op d a b c n), .int .i64 0] else .tuple #[.int .u64 0, .int .i64 2]) := Lib.hid rfl
  have HR : Hid (Rw w w.heap.size d a b c (w.alloc (.cells #[.int .i64 d, .int .i64 a, .int .i64 b, .int .i64 c] 3))) := Lib.hid ⟨by simp, by simp, by simp, by simp, (Below.refl _ _).alloc (Nat.le_refl _) _⟩
  go_enter Tryd.func43, Tryd.ntmps43
  go_upto_region 4 with (fail)
  generalize w.alloc (.cells #[.int .i64 d, .int .i64 a, .int .i64 b, .int .i64 c] 3) = y0 at *
  generalize w.heap.size = q at *
  go_loopw [16, 14] (fun t u y => ∃ k : Nat, k ≤ 4 ∧ t = .int .i64 k ∧ u = .int .u64 (rAcc op d a b c k) ∧ Hid ((∀ i, i < k → gd (r4 d a b c i)) ∧ y0 = y)) (fun t u _ => 4 - (intOf t).toNat)
  case atStart => exact ⟨0, by decide, rfl, rfl, Lib.hid ⟨fun i hi => by omega, rfl⟩⟩
  case round =>
    obtain ⟨k, hk, rfl, rfl, hp⟩ := hrel
    have HP := Lib.hid hp.out.1
    obtain rfl := hp.out.2
    clear hp
    by_cases h4 : k = 4
    · subst h4
      have hrg : gd d ∧ gd a ∧ gd b ∧ gd c := ⟨HP.out 0 (by decide), HP.out 1 (by decide), HP.out 2 (by decide), HP.out 3 (by decide)⟩
      have HG := Lib.hid hrg
      clear hrg hk
      by_cases h1 : 0 ≤ op ∧ op ≤ 35 ∧ -2147483648 ≤ n ∧ n < 2147483648
      · have t1 : decide (op < 0) = false := by simp; omega
        have t2 : decide (35 < op) = false := by simp; omega
        have t3 : decide (n < -2147483648) = false := by simp; omega
        have t4 : decide (2147483648 ≤ n) = false := by simp; omega
        have HE : Hid (codeOk op d a b c n) := Lib.hid ⟨h1, HG.out⟩
        have HC := Lib.hid (rcode_word op d a b c n HE.out)
        clear h1
        generalize rAcc op d a b c 4 = A at *
        go_wp2_with (fail)
        refine bodyPost_ret (v := codeR op d a b c n) ?_ rfl ⟨rfl, HR.out.below⟩
        rw [HV.out, if_pos HE.out, ← HC.out, ← and_low n]
        simp [results, Tryd.results43, go_sem]
      · have HNO : Hid (¬ codeOk op d a b c n) := Lib.hid (fun h => h1 h.1)
        have h5 : op < 0 ∨ (0 ≤ op ∧ 35 < op) ∨ (0 ≤ op ∧ op ≤ 35 ∧ n < -2147483648) ∨ (0 ≤ op ∧ op ≤ 35 ∧ -2147483648 ≤ n ∧ 2147483648 ≤ n) := by omega
        clear h1
        generalize rAcc op d a b c 4 = A at *
        rcases h5 with h5 | h5 | h5 | h5
        · skip
          have t0 : decide (op < 0) = true := by simp; omega
          clear h5
          go_wp2_with (fail)
          refine bodyPost_ret (v := codeR op d a b c n) ?_ rfl ⟨rfl, HR.out.below⟩
          rw [HV.out, if_neg HNO.out]
          simp [results, Tryd.results43, go_sem]
        · skip
          have t0 : decide (op < 0) = false := by simp; omega
          have t1 : decide (35 < op) = true := by simp; omega
          clear h5
          go_wp2_with (fail)
          refine bodyPost_ret (v := codeR op d a b c n) ?_ rfl ⟨rfl, HR.out.below⟩
          rw [HV.out, if_neg HNO.out]
          simp [results, Tryd.results43, go_sem]
        · skip
          have t0 : decide (op < 0) = false := by simp; omega
          have t1 : decide (35 < op) = false := by simp; omega
          have t2 : decide (n < -2147483648) = true := by simp; omega
          clear h5
          go_wp2_with (fail)
          refine bodyPost_ret (v := codeR op d a b c n) ?_ rfl ⟨rfl, HR.out.below⟩
          rw [HV.out, if_neg HNO.out]
          simp [results, Tryd.results43, go_sem]
        · skip
          have t0 : decide (op < 0) = false := by simp; omega
          have t1 : decide (35 < op) = false := by simp; omega
          have t2 : decide (n < -2147483648) = false := by simp; omega
          have t3 : decide (2147483648 ≤ n) = true := by simp; omega
          clear h5
          go_wp2_with (fail)
          refine bodyPost_ret (v := codeR op d a b c n) ?_ rfl ⟨rfl, HR.out.below⟩
          rw [HV.out, if_neg HNO.out]
          simp [results, Tryd.results43, go_sem]
    · have hk3 : k = 0 ∨ k = 1 ∨ k = 2 ∨ k = 3 := by omega
      clear h4 hk
      have k0 := HR.out.k0
      have k1 := HR.out.k1
      have k2 := HR.out.k2
      have k3 := HR.out.k3
      rcases hk3 with rfl | rfl | rfl | rfl
      · by_cases hg : gd d
        · have t5 : decide (d < 0) = false := by have := hg.1; simp; omega
          have t6 : decide (15 < d) = false := by have := hg.2; simp; omega
          have HG := Lib.hid hg
          clear hg
          have HA : Hid (rAcc op d a b c 1 = IntKind.u64.wrap (IntKind.u64.wrap (rAcc op d a b c 0 * 16) + IntKind.u64.wrap d)) := Lib.hid rfl
          generalize rAcc op d a b c 0 = A at *
          go_wp2_with (fail)
          go_roundw
          case rel => exact ⟨1, by decide, rfl, by rw [HA.out], Lib.hid ⟨fun i hi => by
            by_cases e : i = 0
            · subst e; exact HG.out
            · exact HP.out i (by omega), trivial⟩⟩
          case measure => simp [intOf]
        · have hno : ¬ codeOk op d a b c n := fun h => hg h.2.1
          have HNO := Lib.hid hno
          by_cases h0 : d < 0
          · have t5 : decide (d < 0) = true := by simpa using h0
            clear hg hno h0
            go_wp2_with (fail)
            refine bodyPost_ret (v := codeR op d a b c n) ?_ rfl ⟨rfl, HR.out.below⟩
            rw [HV.out, if_neg HNO.out]
            simp [results, Tryd.results43, go_sem]
          · have t5 : decide (d < 0) = false := by simpa using h0
            have t6 : decide (15 < d) = true := by simp; unfold gd at hg; omega
            clear hg hno h0
            go_wp2_with (fail)
            refine bodyPost_ret (v := codeR op d a b c n) ?_ rfl ⟨rfl, HR.out.below⟩
            rw [HV.out, if_neg HNO.out]
            simp [results, Tryd.results43, go_sem]
      · by_cases hg : gd a
        · have t5 : decide (a < 0) = false := by have := hg.1; simp; omega
          have t6 : decide (15 < a) = false := by have := hg.2; simp; omega
          have HG := Lib.hid hg
          clear hg
          have HA : Hid (rAcc op d a b c 2 = IntKind.u64.wrap (IntKind.u64.wrap (rAcc op d a b c 1 * 16) + IntKind.u64.wrap a)) := Lib.hid rfl
          generalize rAcc op d a b c 1 = A at *
          go_wp2_with (fail)
          go_roundw
          case rel => exact ⟨2, by decide, rfl, by rw [HA.out], Lib.hid ⟨fun i hi => by
            by_cases e : i = 1
            · subst e; exact HG.out
            · exact HP.out i (by omega), trivial⟩⟩
          case measure => simp [intOf]
        · have hno : ¬ codeOk op d a b c n := fun h => hg h.2.2.1
          have HNO := Lib.hid hno
          by_cases h0 : a < 0
          · have t5 : decide (a < 0) = true := by simpa using h0
            clear hg hno h0
            go_wp2_with (fail)
            refine bodyPost_ret (v := codeR op d a b c n) ?_ rfl ⟨rfl, HR.out.below⟩
            rw [HV.out, if_neg HNO.out]
            simp [results, Tryd.results43, go_sem]
          · have t5 : decide (a < 0) = false := by simpa using h0
            have t6 : decide (15 < a) = true := by simp; unfold gd at hg; omega
            clear hg hno h0
            go_wp2_with (fail)
            refine bodyPost_ret (v := codeR op d a b c n) ?_ rfl ⟨rfl, HR.out.below⟩
            rw [HV.out, if_neg HNO.out]
            simp [results, Tryd.results43, go_sem]
      · by_cases hg : gd b
        · have t5 : decide (b < 0) = false := by have := hg.1; simp; omega
          have t6 : decide (15 < b) = false := by have := hg.2; simp; omega
          have HG := Lib.hid hg
          clear hg
          have HA : Hid (rAcc op d a b c 3 = IntKind.u64.wrap (IntKind.u64.wrap (rAcc op d a b c 2 * 16) + IntKind.u64.wrap b)) := Lib.hid rfl
          generalize rAcc op d a b c 2 = A at *
          go_wp2_with (fail)
          go_roundw
          case rel => exact ⟨3, by decide, rfl, by rw [HA.out], Lib.hid ⟨fun i hi => by
            by_cases e : i = 2
            · subst e; exact HG.out
            · exact HP.out i (by omega), trivial⟩⟩
          case measure => simp [intOf]
        · have hno : ¬ codeOk op d a b c n := fun h => hg h.2.2.2.1
          have HNO := Lib.hid hno
          by_cases h0 : b < 0
          · have t5 : decide (b < 0) = true := by simpa using h0
            clear hg hno h0
            go_wp2_with (fail)
            refine bodyPost_ret (v := codeR op d a b c n) ?_ rfl ⟨rfl, HR.out.below⟩
            rw [HV.out, if_neg HNO.out]
            simp [results, Tryd.results43, go_sem]
          · have t5 : decide (b < 0) = false := by simpa using h0
            have t6 : decide (15 < b) = true := by simp; unfold gd at hg; omega
            clear hg hno h0
            go_wp2_with (fail)
            refine bodyPost_ret (v := codeR op d a b c n) ?_ rfl ⟨rfl, HR.out.below⟩
            rw [HV.out, if_neg HNO.out]
            simp [results, Tryd.results43, go_sem]
      · by_cases hg : gd c
        · have t5 : decide (c < 0) = false := by have := hg.1; simp; omega
          have t6 : decide (15 < c) = false := by have := hg.2; simp; omega
          have HG := Lib.hid hg
          clear hg
          have HA : Hid (rAcc op d a b c 4 = IntKind.u64.wrap (IntKind.u64.wrap (rAcc op d a b c 3 * 16) + IntKind.u64.wrap c)) := Lib.hid rfl
          generalize rAcc op d a b c 3 = A at *
          go_wp2_with (fail)
          go_roundw
          case rel => exact ⟨4, by decide, rfl, by rw [HA.out], Lib.hid ⟨fun i hi => by
            by_cases e : i = 3
            · subst e; exact HG.out
            · exact HP.out i (by omega), trivial⟩⟩
          case measure => simp [intOf]
        · have hno : ¬ codeOk op d a b c n := fun h => hg h.2.2.2.2
          have HNO := Lib.hid hno
          by_cases h0 : c < 0
          · have t5 : decide (c < 0) = true := by simpa using h0
            clear hg hno h0
            go_wp2_with (fail)
            refine bodyPost_ret (v := codeR op d a b c n) ?_ rfl ⟨rfl, HR.out.below⟩
            rw [HV.out, if_neg HNO.out]
            simp [results, Tryd.results43, go_sem]
          · have t5 : decide (c < 0) = false := by simpa using h0
            have t6 : decide (15 < c) = true := by simp; unfold gd at hg; omega
            clear hg hno h0
            go_wp2_with (fail)
            refine bodyPost_ret (v := codeR op d a b c n) ?_ rfl ⟨rfl, HR.out.below⟩
            rw [HV.out, if_neg HNO.out]
            simp [results, Tryd.results43, go_sem]
end Vm
end Go.Proofs.YtdmffnjbholkkaaDoor
namespace Go.Proofs.YtdmffnjbholkkaaDoor
open Go.RowKit
set_option linter.unusedVariables false
set_option linter.unusedSimpArgs false
namespace Vm
/-- The reference's five numbers. -/
def p5 (x : Nat) : Nat → Int := fun i => if pOk x = true then (match i with | 0 => (pOp x : Int) | 1 => pD x | 2 => pA x | 3 => pB x | _ => pC x) else 0
def nU (x : Nat) : Int := if pOk x = true then IntKind.u64.wrap (pN x) else 0
structure R5 (w : World) (q : Nat) (f : Nat → Int) : Prop where
  k0 : w.cell? ⟨q, 0, none⟩ = some (.int .i64 (f 0))
  k1 : w.cell? ⟨q, 1, none⟩ = some (.int .i64 (f 1))
  k2 : w.cell? ⟨q, 2, none⟩ = some (.int .i64 (f 2))
  k3 : w.cell? ⟨q, 3, none⟩ = some (.int .i64 (f 3))
  k4 : w.cell? ⟨q, 4, none⟩ = some (.int .i64 (f 4))
theorem R5.below {w w' : World} {q : Nat} {f : Nat → Int} (h : R5 w q f) (hb : Below w.heap.size w w') : R5 w' q f := ⟨keep1 hb h.k0, keep1 hb h.k1, keep1 hb h.k2, keep1 hb h.k3, keep1 hb h.k4⟩
theorem and15 (x k : Nat) (hx : x < 18446744073709551616) (K : Int) (hK : K = ((2 ^ k : Nat) : Int)) : wrap64 (bits .and .u64 ((x : Int) / K) 15) = ((x / 2 ^ k % 16 : Nat) : Int) := by
  subst hK
  have hle : x / 2 ^ k ≤ x := Nat.div_le_self _ _
  have hb := u64_and_nat (x / 2 ^ k) (2 ^ 4 - 1) (by omega) (by omega)
  rw [Nat.and_two_pow_sub_one_eq_mod] at hb
  rw [← Int.natCast_ediv]
  refine (congrArg wrap64 hb).trans ?_
  have := Nat.mod_lt (x / 2 ^ k) (show 0 < 2 ^ 4 by decide)
  show wrap64 ((x / 2 ^ k % 16 : Nat) : Int) = _
  generalize hz : x / 2 ^ k % 16 = z at *
  have : z < 16 := this
  unfold wrap64; omega
theorem and255 (x : Nat) (hx : x < 18446744073709551616) : bits .and .u64 ((x : Int) / 4294967296) 255 = (pN0 x : Int) := by
  have hb := u64_and_nat (x / 2 ^ 32) (2 ^ 8 - 1) (by omega) (by omega)
  rw [Nat.and_two_pow_sub_one_eq_mod] at hb
  exact hb
theorem top8 (x : Nat) (hx : x < 18446744073709551616) : wrap64 ((x : Int) / 72057594037927936) = (pOp x : Int) := by
  unfold pOp wrap64; omega
theorem lowX (x : Nat) (hx : x < 18446744073709551616) : bits .and .u64 (x : Int) 4294967295 = ((x % 4294967296 : Nat) : Int) := by
  have hb := u64_and_nat x (2 ^ 32 - 1) hx (by omega)
  rw [Nat.and_two_pow_sub_one_eq_mod] at hb
  exact hb
theorem R5.new (w : World) (a b c d e : Int) (f : Nat → Int) (h0 : f 0 = a) (h1 : f 1 = b) (h2 : f 2 = c) (h3 : f 3 = d) (h4 : f 4 = e) :
    R5 (w.alloc (.cells #[.int .i64 a, .int .i64 b, .int .i64 c, .int .i64 d, .int .i64 e] 3)) w.heap.size f := ⟨by simp [h0], by simp [h1], by simp [h2], by simp [h3], by simp [h4]⟩
theorem r5_no (w : World) (x : Nat) (h : ¬ pOk x = true) : R5 (w.alloc (.cells #[.int .i64 0, .int .i64 0, .int .i64 0, .int .i64 0, .int .i64 0] 3)) w.heap.size (p5 x) :=
  R5.new w 0 0 0 0 0 _ (if_neg h) (if_neg h) (if_neg h) (if_neg h) (if_neg h)
theorem r5_ok (w : World) (x : Nat) (hx : x < 18446744073709551616) (h : pOk x = true) : R5 (w.alloc (.cells #[.int .i64 (pOp x), .int .i64 (wrap64 (bits .and .u64 ((x : Int) / 4503599627370496) 15)), .int .i64 (wrap64 (bits .and .u64 ((x : Int) / 281474976710656) 15)), .int .i64 (wrap64 (bits .and .u64 ((x : Int) / 17592186044416) 15)), .int .i64 (wrap64 (bits .and .u64 ((x : Int) / 1099511627776) 15))] 3)) w.heap.size (p5 x) :=
  R5.new w _ _ _ _ _ _ (if_pos h) ((if_pos h).trans (and15 x 52 hx _ rfl).symm) ((if_pos h).trans (and15 x 48 hx _ rfl).symm) ((if_pos h).trans (and15 x 44 hx _ rfl).symm) ((if_pos h).trans (and15 x 40 hx _ rfl).symm)
theorem nU_lo (x : Nat) (h : pOk x = true) (h3 : x % 4294967296 < 2147483648) : nU x = ((x % 4294967296 : Nat) : Int) := by
  unfold nU
  rw [if_pos h]
  have e : pN x = ((x % 4294967296 : Nat) : Int) := by unfold pN; omega
  rw [e]
  exact IntWalk.u64_in _ (by omega)
theorem nU_hi (x : Nat) (h : pOk x = true) (h3 : ¬ x % 4294967296 < 2147483648) : nU x = IntKind.u64.wrap (((x % 4294967296 : Nat) : Int) + 18446744069414584320) := by
  unfold nU
  rw [if_pos h]
  unfold pN
  simp [IntKind.wrap, IntKind.bits, IntKind.signed]
  omega
set_option maxHeartbeats 1000000 in
set_option maxRecDepth 100000 in
theorem rparts_walk (w : World) (x : Nat) (hx : x < 18446744073709551616) :
    Calls Tryd.prog 44 #[.int .u64 x] w fun e w' => ∃ q, e = .returned (.tuple #[.slice (some ⟨q, 0, none⟩) 5 5, .int .u64 (nU x), .bool (pOk x)]) ∧ R5 w' q (p5 x) ∧ Below w.heap.size w w' := by
  have R0 := Lib.hid (top8 x hx)
  have r1 := and255 x hx
  have r2 := lowX x hx
  have HP : Hid (pOk x = (decide (pOp x ≤ 35) && decide (pN0 x = 0))) := Lib.hid rfl
  have HX := Lib.hid hx
  have R1 := Lib.hid r1
  have R2 := Lib.hid r2
  clear hx r1 r2
  go_enter Tryd.func44, Tryd.ntmps44
  go_upto_region 2 with (fail)
  rw [R0.out]
  by_cases h1 : pOp x ≤ 35
  · have t1 : decide (35 < (pOp x : Int)) = false := by simp; omega
    by_cases h2 : pN0 x = 0
    · have t2 : (bits .and .u64 ((x : Int) / 4294967296) 255 != 0) = false := by rw [R1.out, h2]; rfl
      have HK : Hid (pOk x = true) := Lib.hid (by rw [HP.out]; simp [h1, h2])
      clear h1 h2
      by_cases h3 : x % 4294967296 < 2147483648
      · have t3 : decide (2147483648 ≤ bits .and .u64 (x : Int) 4294967295) = false := by rw [R2.out]; simp; omega
        have H3 := Lib.hid h3
        clear h3
        go_wp2_with (fail)
        refine bodyPost_ret (v := .tuple #[.slice (some ⟨w.heap.size, 0, none⟩) 5 5, .int .u64 (nU x), .bool (pOk x)]) ?_ rfl ⟨w.heap.size, rfl, r5_ok w x HX.out HK.out, (Below.refl _ _).alloc (Nat.le_refl _) _⟩
        rw [nU_lo x HK.out H3.out, HK.out, R2.out]
        simp [results, Tryd.results44, go_sem]
      · have t3 : decide (2147483648 ≤ bits .and .u64 (x : Int) 4294967295) = true := by rw [R2.out]; simp; omega
        have H3 := Lib.hid h3
        clear h3
        go_wp2_with (fail)
        refine bodyPost_ret (v := .tuple #[.slice (some ⟨w.heap.size, 0, none⟩) 5 5, .int .u64 (nU x), .bool (pOk x)]) ?_ rfl ⟨w.heap.size, rfl, r5_ok w x HX.out HK.out, (Below.refl _ _).alloc (Nat.le_refl _) _⟩
        rw [nU_hi x HK.out H3.out, HK.out, R2.out]
        simp [results, Tryd.results44, go_sem]
    · have t2 : (bits .and .u64 ((x : Int) / 4294967296) 255 != 0) = true := by rw [R1.out]; simp; omega
      have HK : Hid (¬ pOk x = true) := Lib.hid (by rw [HP.out]; simp [h2])
      clear h1 h2
      go_wp2_with (fail)
      refine bodyPost_ret (v := .tuple #[.slice (some ⟨w.heap.size, 0, none⟩) 5 5, .int .u64 (nU x), .bool (pOk x)]) ?_ rfl ⟨w.heap.size, rfl, r5_no w x HK.out, (Below.refl _ _).alloc (Nat.le_refl _) _⟩
      rw [show nU x = 0 from if_neg HK.out, show pOk x = false by simpa using HK.out]
      simp [results, Tryd.results44, go_sem]
  · have t1 : decide (35 < (pOp x : Int)) = true := by simp; omega
    have HK : Hid (¬ pOk x = true) := Lib.hid (by rw [HP.out]; simp [h1])
    clear h1
    go_wp2_with (fail)
    refine bodyPost_ret (v := .tuple #[.slice (some ⟨w.heap.size, 0, none⟩) 5 5, .int .u64 (nU x), .bool (pOk x)]) ?_ rfl ⟨w.heap.size, rfl, r5_no w x HK.out, (Below.refl _ _).alloc (Nat.le_refl _) _⟩
    rw [show nU x = 0 from if_neg HK.out, show pOk x = false by simpa using HK.out]
    simp [results, Tryd.results44, go_sem]
end Vm
end Go.Proofs.YtdmffnjbholkkaaDoor
namespace Go.Proofs.YtdmffnjbholkkaaDoor
open Go.RowKit
set_option linter.unusedVariables false
set_option linter.unusedSimpArgs false
namespace Vm
open Kc
/-- A machine, plain. -/
structure Mac where
  mem : Nat → Nat
  reg : Nat → Nat
  pc : Nat
  halted : Bool
  exit : Nat
def mc (M : Mac) : Nat → Value := fun i =>
  if i < 8192 then .int .u64 (M.mem i) else if i < 8208 then .int .u64 (M.reg (i - 8192)) else if i = 8208 then .int .u64 M.pc else if i = 8209 then .bool M.halted else .int .u64 M.exit
def m0 : Mac := ⟨fun _ => 0, fun _ => 0, 0, false, 0⟩
set_option maxRecDepth 100000 in
theorem buildM0 (w : World) : (Instr.build 87 #[]).run Tryd.prog w = .ok (.agg (tab 8211 (mc m0))) w := by kernel_rfl
theorem infM' : (Tryd.prog.info? 87).map (·.size) = some 8211 := by kernel_rfl
theorem infM (g : Nat → Value) : (Tryd.prog.info? 87).map (·.size) = some (tab 8211 g).size := by rw [tab_size]; exact infM'
/-- All its words are words. -/
structure OkM (M : Mac) : Prop where
  mem : ∀ i, M.mem i < 18446744073709551616
  reg : ∀ i, M.reg i < 18446744073709551616
  pc : M.pc < 18446744073709551616
  exit : M.exit < 18446744073709551616
/-- A block is a machine. -/
def IsMac (w : World) (b : Nat) (M : Mac) : Prop := IsTab w b 87 8211 (mc M)
section
variable {w w' : World} {b : Nat} {M M' : Mac}
theorem IsMac.mem (h : IsMac w b M) {p : Nat} (hp : p < 8192) : w.cell? ⟨b, p, none⟩ = some (.int .u64 (M.mem p)) := by
  have := h.cell p (by omega); rw [this]; unfold mc; rw [if_pos hp]
theorem IsMac.reg (h : IsMac w b M) {p : Nat} (hp : p < 16) : w.cell? ⟨b, 8192 + p, none⟩ = some (.int .u64 (M.reg p)) := by
  have := h.cell (8192 + p) (by omega); rw [this]; unfold mc; rw [if_neg (by omega), if_pos (by omega), show 8192 + p - 8192 = p from by omega]
theorem IsMac.pc (h : IsMac w b M) : w.cell? ⟨b, 8208, none⟩ = some (.int .u64 M.pc) := by
  have := h.cell 8208 (by omega); rw [this]; rfl
theorem IsMac.halted (h : IsMac w b M) : w.cell? ⟨b, 8209, none⟩ = some (.bool M.halted) := by
  have := h.cell 8209 (by omega); rw [this]; rfl
theorem IsMac.exit (h : IsMac w b M) : w.cell? ⟨b, 8210, none⟩ = some (.int .u64 M.exit) := by
  have := h.cell 8210 (by omega); rw [this]; rfl
theorem IsMac.fz (h : IsMac w b M) (i : Nat) : w.frozen? ⟨b, i, none⟩ = false := IsTab.fz h i
theorem IsMac.lt (h : IsMac w b M) : b < w.heap.size := IsTab.lt h
theorem IsMac.below (h : IsMac w b M) (hb : Below w.heap.size w w') : IsMac w' b M := IsTab.below h hb
theorem IsMac.kept {S : Nat → Prop} (h : IsMac w b M) (hk : Kept S w w') (hn : ¬ S b) : IsMac w' b M := Wt.IsTab.kept h hk hn
theorem IsMac.set (h : IsMac w b M) (i : Nat) (v : Value) (he : ∀ j, j < 8211 → updv (mc M) i v j = mc M' j) : IsMac (w.setCell ⟨b, i, none⟩ v) b M' := IsTab.cong (IsTab.set h i v) he
theorem IsMac.setPc (h : IsMac w b M) (x : Nat) : IsMac (w.setCell ⟨b, 8208, none⟩ (.int .u64 (x : Int))) b { M with pc := x } := h.set 8208 _ fun j hj => by
  unfold updv mc
  by_cases e : j = 8208
  · subst e; rfl
  · rw [if_neg e]
    by_cases h1 : j < 8192
    · rw [if_pos h1, if_pos h1]
    · rw [if_neg h1, if_neg h1]
      by_cases h2 : j < 8208
      · rw [if_pos h2, if_pos h2]
      · rw [if_neg h2, if_neg h2, if_neg e, if_neg e]
theorem IsMac.setHalted (h : IsMac w b M) (x : Bool) : IsMac (w.setCell ⟨b, 8209, none⟩ (.bool x)) b { M with halted := x } := h.set 8209 _ fun j hj => by
  unfold updv mc
  by_cases e : j = 8209
  · subst e; rfl
  · rw [if_neg e]
    by_cases h1 : j < 8192
    · rw [if_pos h1, if_pos h1]
    · rw [if_neg h1, if_neg h1]
      by_cases h2 : j < 8208
      · rw [if_pos h2, if_pos h2]
      · rw [if_neg h2, if_neg h2]
        by_cases h3 : j = 8208
        · rw [if_pos h3, if_pos h3]
        · rw [if_neg h3, if_neg h3, if_neg e, if_neg e]
theorem IsMac.setExit (h : IsMac w b M) (x : Nat) : IsMac (w.setCell ⟨b, 8210, none⟩ (.int .u64 (x : Int))) b { M with exit := x } := h.set 8210 _ fun j hj => by
  unfold updv mc
  by_cases e : j = 8210
  · subst e; rfl
  · rw [if_neg e]
    by_cases h1 : j < 8192
    · rw [if_pos h1, if_pos h1]
    · rw [if_neg h1, if_neg h1]
      by_cases h2 : j < 8208
      · rw [if_pos h2, if_pos h2]
      · rw [if_neg h2, if_neg h2]
        by_cases h3 : j = 8208
        · rw [if_pos h3, if_pos h3]
        · rw [if_neg h3, if_neg h3, if_pos (by omega), if_pos (by omega)]
def setR (M : Mac) (d v : Nat) : Mac := { M with reg := fun i => if i = d then v else M.reg i }
def setM (M : Mac) (p v : Nat) : Mac := { M with mem := fun i => if i = p then v else M.mem i }
theorem IsMac.setReg (h : IsMac w b M) {d : Nat} (hd : d < 16) (v : Nat) : IsMac (w.setCell ⟨b, 8192 + d, none⟩ (.int .u64 (v : Int))) b (setR M d v) := h.set (8192 + d) _ fun j hj => by
  unfold updv mc setR
  by_cases e : j = 8192 + d
  · subst e; rw [if_pos rfl, if_neg (by omega), if_pos (by omega)]; simp
  · rw [if_neg e]
    by_cases h1 : j < 8192
    · rw [if_pos h1, if_pos h1]
    · rw [if_neg h1, if_neg h1]
      by_cases h2 : j < 8208
      · rw [if_pos h2, if_pos h2]
        simp only
        rw [if_neg (by omega)]
      · rw [if_neg h2, if_neg h2]
theorem IsMac.setMem (h : IsMac w b M) {p : Nat} (hp : p < 8192) (v : Nat) : IsMac (w.setCell ⟨b, p, none⟩ (.int .u64 (v : Int))) b (setM M p v) := h.set p _ fun j hj => by
  unfold updv mc setM
  by_cases e : j = p
  · subst e; rw [if_pos rfl, if_pos hp]; simp
  · rw [if_neg e]
    by_cases h1 : j < 8192
    · rw [if_pos h1, if_pos h1]
      simp only
      rw [if_neg e]
    · rw [if_neg h1, if_neg h1]
end
theorem kept_set {S : Nat → Prop} {a w : World} (h : Kept S a w) (q i : Nat) (hq : S q) (v : Value) : Kept S a (w.setCell ⟨q, i, none⟩ v) := h.setCell (.inl hq) v
def stopM (M : Mac) (x : Nat) : Mac := { M with halted := true, exit := x }
set_option maxHeartbeats 1000000 in
set_option maxRecDepth 100000 in
theorem stop_walk (w : World) (b x : Nat) (M : Mac) (h : IsMac w b M) :
    Calls Tryd.prog 78 #[.pointer (some ⟨b, 0, none⟩), .int .u64 x] w fun e w' => e = .returned (.tuple #[]) ∧ IsMac w' b (stopM M x) ∧ Kept (fun k => k = b) w w' := by
  have k1 := h.halted
  have f1 := h.fz 8209
  have k2 := (h.setHalted true).exit
  have f2 := (h.setHalted true).fz 8210
  have HH := Lib.hid ((h.setHalted true).setExit x)
  have HK : Hid (Kept (fun k => k = b) w ((w.setCell ⟨b, 8209, none⟩ (.bool true)).setCell ⟨b, 8210, none⟩ (.int .u64 (x : Int)))) := Lib.hid (kept_set (kept_set (Kept.refl (fun k => k = b) w) b _ rfl _) b _ rfl _)
  clear h
  go_enter Tryd.func78, Tryd.ntmps78
  go_wp2_with (fail)
  exact bodyPost_end (v := .tuple #[]) (by simp [results, Tryd.results78, go_sem]) rfl ⟨rfl, HH.out, HK.out⟩
end Vm
end Go.Proofs.YtdmffnjbholkkaaDoor
namespace Go.Proofs.YtdmffnjbholkkaaDoor
open Go.RowKit
set_option linter.unusedVariables false
set_option linter.unusedSimpArgs false
namespace Vm
open Kc
theorem undMem : Tryd.prog.underlying 84 = some (.array 8192 78) := by kernel_rfl
theorem undReg : Tryd.prog.underlying 85 = some (.array 16 78) := by kernel_rfl
/-- What stands ahead of a step's switch. -/
structure Pre (w : World) (b : Nat) (M : Mac) (x : Nat) : Prop where
  mac : IsMac w b M
  ok : OkM M
  hh : M.halted = false
  pc : M.pc < 8192
  hx : M.mem M.pc = x
  pok : pOk x = true
/-- A number as a word. -/
def wN (z : Int) : Nat := (IntKind.u64.wrap z).toNat
theorem wN_eq (z : Int) : IntKind.u64.wrap z = ((wN z : Nat) : Int) := by
  unfold wN
  have : IntKind.u64.wrap z = z % 18446744073709551616 := by simp [IntKind.wrap, IntKind.bits, IntKind.signed]
  rw [this]; omega
theorem wN_lt (z : Int) : wN z < 18446744073709551616 := by
  unfold wN
  have : IntKind.u64.wrap z = z % 18446744073709551616 := by simp [IntKind.wrap, IntKind.bits, IntKind.signed]
  rw [this]; omega
theorem wrap_pc {p : Nat} (h : p < 8192) : IntKind.u64.wrap ((p : Int) + 1) = ((p + 1 : Nat) : Int) := by
  rw [IntWalk.u64_in _ (by omega)]; omega
theorem ix16 (b i : Nat) (hi : i < 16) (w : World) : (Instr.indexAt 85 (.pointer (some ⟨b, 8192, none⟩)) (.int .i64 i)).run Tryd.prog w = .ok (.pointer (some ⟨b, 8192 + i, none⟩)) w := by
  have h1 : (i : Int) < 16 := by omega
  simp [go_sem, h1, Tryd.underlying85]
theorem pD_lt (x : Nat) : pD x < 16 := Nat.mod_lt _ (by decide)
theorem pA_lt (x : Nat) : pA x < 16 := Nat.mod_lt _ (by decide)
theorem pB_lt (x : Nat) : pB x < 16 := Nat.mod_lt _ (by decide)
theorem pC_lt (x : Nat) : pC x < 16 := Nat.mod_lt _ (by decide)
set_option maxHeartbeats 2000000 in
set_option maxRecDepth 100000 in
theorem step_li (w : World) (b s : Nat) (M : Mac) (x : Nat) (h : Pre w b M x) (hop : pOp x = 26) :
    Calls Tryd.prog 65 #[.pointer (some ⟨b, 0, none⟩), .pointer (some ⟨s, 0, none⟩)] w fun e w' => e = .returned (.tuple #[]) ∧ IsMac w' b ({ setR M (pD x) (wN (pN x)) with pc := M.pc + 1 }) ∧ Kept (fun k => k = b) w w' := by
  have k3 : w.cell? ⟨b, 8209, none⟩ = some (.bool false) := h.hh ▸ h.mac.halted
  have k2 := h.mac.pc
  have tpc : decide (8192 ≤ (M.pc : Int)) = false := by have := h.pc; simp; omega
  have HP := Lib.hid h
  have hxb : x < 18446744073709551616 := h.hx ▸ h.ok.mem _
  have HXB := Lib.hid hxb
  clear hxb
  clear h
  go_enter Tryd.func65, Tryd.ntmps65
  go_upto_region 3 with (fail)
  have NE : Nonempty (Wd (fun z => Below w.heap.size w z)) := ⟨⟨w.drew, (Below.refl _ _).drew⟩⟩
  have kpc : ∀ z : Wd (fun z => Below w.heap.size w z), z.val.cell? ⟨b, 8208, none⟩ = some (.int .u64 (M.pc : Int)) := fun z => keep1 z.ok HP.out.mac.pc
  have km : ∀ z : Wd (fun z => Below w.heap.size w z), z.val.cell? ⟨b, M.pc, none⟩ = some (.int .u64 (x : Int)) := fun z => keep1 z.ok (HP.out.hx ▸ HP.out.mac.mem HP.out.pc)
  have hlt : (M.pc : Int) < 8192 := by have := HP.out.pc; omega
  have hpv : Hid (partsV x = .tuple #[.int .i64 (pOp x), .int .i64 (pD x), .int .i64 (pA x), .int .i64 (pB x), .int .i64 (pC x), .int .i64 (pN x), .bool true]) := Lib.hid (if_pos HP.out.pok)
  have Q1 := Lib.hid (fun z : Wd (fun z => Below w.heap.size w z) => in_of_below z (fun y hb => bl z.ok hb) (hpv.out ▸ parts_walk z.val x HXB.out))
  clear k2 k3 tpc
  refine wp_region_in (fun z => Below w.heap.size w z) (by kernel_rfl) (by kernel_rfl) (Below.refl _ _).drew ?_
  repeat (go_big_quiet_step (with_reducible exact Q1.out _))
  refine wpQuiet_nil ?_
  rintro y0 ⟨z, rfl⟩
  have HZ := Lib.hid (HP.out.mac.below z.ok)
  have HB := Lib.hid z.ok
  clear Q1 kpc km NE hlt
  generalize z.val = y at *
  have hd : (pD x : Int) < 16 := by have := pD_lt x; omega
  have kd := HZ.out.reg (pD_lt x)
  have fd := HZ.out.fz (8192 + pD x)
  have HS : Hid (IsMac (y.setCell ⟨b, 8192 + pD x, none⟩ (.int .u64 (IntKind.u64.wrap (pN x)))) b (setR M (pD x) (wN (pN x)))) := Lib.hid (by rw [wN_eq]; exact HZ.out.setReg (pD_lt x) _)
  have HK : Hid (Kept (fun k => k = b) w (y.setCell ⟨b, 8192 + pD x, none⟩ (.int .u64 (IntKind.u64.wrap (pN x))))) := Lib.hid (kept_set (S := fun k => k = b) (Kept.ofBelow HB.out) b _ rfl _)
  go_upto_region 16 with (fail)
  clear kd fd hd
  generalize y.setCell ⟨b, 8192 + pD x, none⟩ (.int .u64 (IntKind.u64.wrap (pN x))) = y1 at *
  have kp := HS.out.pc
  have fp := HS.out.fz 8208
  have HW : Hid (IntKind.u64.wrap ((M.pc : Int) + 1) = ((M.pc + 1 : Nat) : Int)) := Lib.hid (wrap_pc HP.out.pc)
  have H9 : Hid (IsMac (y1.setCell ⟨b, 8208, none⟩ (.int .u64 (IntKind.u64.wrap ((M.pc : Int) + 1)))) b { setR M (pD x) (wN (pN x)) with pc := M.pc + 1 }) := Lib.hid (by rw [HW.out]; exact HS.out.setPc (M.pc + 1))
  have K9 := Lib.hid (kept_set (S := fun k => k = b) HK.out b 8208 rfl (.int .u64 (IntKind.u64.wrap ((M.pc : Int) + 1))))
  generalize hpc : (M.pc : Int) = PC at *
  go_wp2_with (fail)
  subst hpc
  exact bodyPost_end (v := .tuple #[]) (by simp [results, Tryd.results65, go_sem]) rfl ⟨rfl, H9.out, K9.out⟩
set_option maxHeartbeats 2000000 in
set_option maxRecDepth 100000 in
theorem step_halt (w : World) (b s : Nat) (M : Mac) (x : Nat) (h : Pre w b M x) (hop : pOp x = 0) :
    Calls Tryd.prog 65 #[.pointer (some ⟨b, 0, none⟩), .pointer (some ⟨s, 0, none⟩)] w fun e w' => e = .returned (.tuple #[]) ∧ IsMac w' b (stopM { M with pc := M.pc + 1 } (M.reg (pA x))) ∧ Kept (fun k => k = b) w w' := by
  have k3 : w.cell? ⟨b, 8209, none⟩ = some (.bool false) := h.hh ▸ h.mac.halted
  have k2 := h.mac.pc
  have tpc : decide (8192 ≤ (M.pc : Int)) = false := by have := h.pc; simp; omega
  have HP := Lib.hid h
  have hxb : x < 18446744073709551616 := h.hx ▸ h.ok.mem _
  have HXB := Lib.hid hxb
  clear hxb
  clear h
  go_enter Tryd.func65, Tryd.ntmps65
  go_upto_region 3 with (fail)
  have NE : Nonempty (Wd (fun z => Below w.heap.size w z)) := ⟨⟨w.drew, (Below.refl _ _).drew⟩⟩
  have kpc : ∀ z : Wd (fun z => Below w.heap.size w z), z.val.cell? ⟨b, 8208, none⟩ = some (.int .u64 (M.pc : Int)) := fun z => keep1 z.ok HP.out.mac.pc
  have km : ∀ z : Wd (fun z => Below w.heap.size w z), z.val.cell? ⟨b, M.pc, none⟩ = some (.int .u64 (x : Int)) := fun z => keep1 z.ok (HP.out.hx ▸ HP.out.mac.mem HP.out.pc)
  have hlt : (M.pc : Int) < 8192 := by have := HP.out.pc; omega
  have hpv : Hid (partsV x = .tuple #[.int .i64 (pOp x), .int .i64 (pD x), .int .i64 (pA x), .int .i64 (pB x), .int .i64 (pC x), .int .i64 (pN x), .bool true]) := Lib.hid (if_pos HP.out.pok)
  have Q1 := Lib.hid (fun z : Wd (fun z => Below w.heap.size w z) => in_of_below z (fun y hb => bl z.ok hb) (hpv.out ▸ parts_walk z.val x HXB.out))
  clear k2 k3 tpc
  refine wp_region_in (fun z => Below w.heap.size w z) (by kernel_rfl) (by kernel_rfl) (Below.refl _ _).drew ?_
  repeat (go_big_quiet_step (with_reducible exact Q1.out _))
  refine wpQuiet_nil ?_
  rintro y0 ⟨z, rfl⟩
  have HZ := Lib.hid (HP.out.mac.below z.ok)
  have HB := Lib.hid z.ok
  clear Q1 kpc km NE hlt
  generalize z.val = y at *
  have ha : (pA x : Int) < 16 := by have := pA_lt x; omega
  have kp := HZ.out.pc
  have fp := HZ.out.fz 8208
  have HW : Hid (IntKind.u64.wrap ((M.pc : Int) + 1) = ((M.pc + 1 : Nat) : Int)) := Lib.hid (wrap_pc HP.out.pc)
  have HS : Hid (IsMac (y.setCell ⟨b, 8208, none⟩ (.int .u64 (IntKind.u64.wrap ((M.pc : Int) + 1)))) b { M with pc := M.pc + 1 }) := Lib.hid (by rw [HW.out]; exact HZ.out.setPc (M.pc + 1))
  have HK : Hid (Kept (fun k => k = b) w (y.setCell ⟨b, 8208, none⟩ (.int .u64 (IntKind.u64.wrap ((M.pc : Int) + 1))))) := Lib.hid (kept_set (S := fun k => k = b) (Kept.ofBelow HB.out) b _ rfl _)
  go_upto_region 10 with (fail)
  clear kp fp
  generalize y.setCell ⟨b, 8208, none⟩ (.int .u64 (IntKind.u64.wrap ((M.pc : Int) + 1))) = y1 at *
  have ka := HS.out.reg (pA_lt x)
  have HC := Lib.hid (stop_walk y1 b (M.reg (pA x)) _ HS.out)
  go_wp2_with (go_at_call 78; (with_reducible refine HC.out.mono ?_); rintro e y2 ⟨he, hm, hk⟩; obtain rfl : e = _ := he; have HM2 := Lib.hid hm; have HK2 := Lib.hid hk; clear hm hk)
  exact bodyPost_end (v := .tuple #[]) (by simp [results, Tryd.results65, go_sem]) rfl ⟨rfl, HM2.out, HK.out.trans HK2.out fun _ _ h => h⟩
set_option maxHeartbeats 2000000 in
set_option maxRecDepth 100000 in
theorem step_app (w : World) (b s : Nat) (M : Mac) (x : Nat) (h : Pre w b M x) (hop : 1 ≤ pOp x ∧ pOp x ≤ 25) (v : Nat) (ec : Value) (hA : ∀ y, Calls Tryd.prog 79 #[.int .i64 (pOp x), .int .u64 (M.reg (pA x)), .int .u64 (M.reg (pB x)), .int .u64 (M.reg (pC x))] y fun e w' => e = .returned (.tuple #[.int .u64 v, ec]) ∧ y = w') :
    Calls Tryd.prog 65 #[.pointer (some ⟨b, 0, none⟩), .pointer (some ⟨s, 0, none⟩)] w fun e w' => e = .returned (.tuple #[]) ∧ IsMac w' b ({ setR M (pD x) v with pc := M.pc + 1 }) ∧ Kept (fun k => k = b) w w' := by
  have k3 : w.cell? ⟨b, 8209, none⟩ = some (.bool false) := h.hh ▸ h.mac.halted
  have k2 := h.mac.pc
  have tpc : decide (8192 ≤ (M.pc : Int)) = false := by have := h.pc; simp; omega
  have HP := Lib.hid h
  have hxb : x < 18446744073709551616 := h.hx ▸ h.ok.mem _
  have HXB := Lib.hid hxb
  clear hxb
  have to0 : ((pOp x : Int) == 0) = false := by simp; omega
  have to1 : decide ((pOp x : Int) < 26) = true := by simp; omega
  have HA := Lib.hid hA
  clear hA hop
  clear h
  go_enter Tryd.func65, Tryd.ntmps65
  go_upto_region 3 with (fail)
  have NE : Nonempty (Wd (fun z => Below w.heap.size w z)) := ⟨⟨w.drew, (Below.refl _ _).drew⟩⟩
  have kpc : ∀ z : Wd (fun z => Below w.heap.size w z), z.val.cell? ⟨b, 8208, none⟩ = some (.int .u64 (M.pc : Int)) := fun z => keep1 z.ok HP.out.mac.pc
  have km : ∀ z : Wd (fun z => Below w.heap.size w z), z.val.cell? ⟨b, M.pc, none⟩ = some (.int .u64 (x : Int)) := fun z => keep1 z.ok (HP.out.hx ▸ HP.out.mac.mem HP.out.pc)
  have hlt : (M.pc : Int) < 8192 := by have := HP.out.pc; omega
  have hpv : Hid (partsV x = .tuple #[.int .i64 (pOp x), .int .i64 (pD x), .int .i64 (pA x), .int .i64 (pB x), .int .i64 (pC x), .int .i64 (pN x), .bool true]) := Lib.hid (if_pos HP.out.pok)
  have Q1 := Lib.hid (fun z : Wd (fun z => Below w.heap.size w z) => in_of_below z (fun y hb => bl z.ok hb) (hpv.out ▸ parts_walk z.val x HXB.out))
  clear k2 k3 tpc
  refine wp_region_in (fun z => Below w.heap.size w z) (by kernel_rfl) (by kernel_rfl) (Below.refl _ _).drew ?_
  repeat (go_big_quiet_step (with_reducible exact Q1.out _))
  refine wpQuiet_nil ?_
  rintro y0 ⟨z, rfl⟩
  have HZ := Lib.hid (HP.out.mac.below z.ok)
  have HB := Lib.hid z.ok
  clear Q1 kpc km NE hlt
  generalize z.val = y at *
  have ha : (pA x : Int) < 16 := by have := pA_lt x; omega
  have hb : (pB x : Int) < 16 := by have := pB_lt x; omega
  have hc : (pC x : Int) < 16 := by have := pC_lt x; omega
  have hd : (pD x : Int) < 16 := by have := pD_lt x; omega
  go_upto_region 12 with (fail)
  have HZ := Lib.hid (HZ.out.kept (Wt.kept_drew y) id)
  have HBK : Hid (Kept (fun k => k = b) w y.drew) := Lib.hid (Kept.ofBelow HB.out).drew
  have HS : Hid (IsMac (y.drew.setCell ⟨b, 8192 + pD x, none⟩ (.int .u64 (v : Int))) b (setR M (pD x) v)) := Lib.hid (HZ.out.setReg (pD_lt x) _)
  have HK : Hid (Kept (fun k => k = b) w (y.drew.setCell ⟨b, 8192 + pD x, none⟩ (.int .u64 (v : Int)))) := Lib.hid (kept_set (S := fun k => k = b) HBK.out b _ rfl _)
  refine wp_region_oz (fun z : World => y.drew = z) 24 (.take 0 (.take 1 (.take 2 (.take 3 (.take 4 (.take 5 (.take 6 (.take 7 (.take 8 (.take 9 (.take 10 (.take 11 (.take 12 (.take 13 (.take 14 (.take 15 (.take 16 (.take 17 (.free 22 (.one 18 (.take 19 (.take 20 (.free 21 (.free 23 (.one 24 .done))))))))))))))))))))))))) (by kernel_rfl) (by kernel_rfl) rfl ?_
  generalize y.drew = y0 at *
  refine oz_tk (some 83) (.pointer (some ⟨b, 8192, none⟩)) rfl rfl (by go_simp) (fun _ _ => by simp [execOp, go_sem]) ?_
  simp only [Act.put, pS]
  refine oz_tk (some 84) (.int .i64 (pD x)) rfl rfl (by go_simp) (fun _ _ => by simp [execOp, go_sem]) ?_
  simp only [Act.put, pS]
  refine oz_tk (some 85) (.int .i64 (pOp x)) rfl rfl (by go_simp) (fun _ _ => by simp [execOp, go_sem]) ?_
  simp only [Act.put, pS]
  refine oz_tk (some 86) (.pointer (some ⟨b, 8192, none⟩)) rfl rfl (by go_simp) (fun _ _ => by simp [execOp, go_sem]) ?_
  simp only [Act.put, pS]
  refine oz_tk (some 87) (.int .i64 (pA x)) rfl rfl (by go_simp) (fun _ _ => by simp [execOp, go_sem]) ?_
  simp only [Act.put, pS]
  refine oz_tk (some 88) (.pointer (some ⟨b, 8192, none⟩)) rfl rfl (by go_simp) (fun _ _ => by simp [execOp, go_sem]) ?_
  simp only [Act.put, pS]
  refine oz_tk (some 89) (.pointer (some ⟨b, (8192 + pA x), none⟩)) rfl rfl (by go_simp) (fun _ _ => by have h := ix16 b (pA x) (pA_lt x); simp [execOp, go_sem, h, Result.andThen]) ?_
  simp only [Act.put, pS]
  refine oz_ld (some 90) 78 (.tmp 89) (.pointer (some ⟨b, (8192 + pA x), none⟩)) (.int .u64 (M.reg (pA x))) rfl rfl (by go_simp) rfl rfl (fun y hy => by have h := hy ▸ HZ.out.reg (pA_lt x); simp [Instr.loadAt, go_sem, h, Tryd.underlying78]) ?_
  simp only [Act.put, pS]
  refine oz_tk (some 91) (.pointer (some ⟨b, 8192, none⟩)) rfl rfl (by go_simp) (fun _ _ => by simp [execOp, go_sem]) ?_
  simp only [Act.put, pS]
  refine oz_tk (some 92) (.int .i64 (pB x)) rfl rfl (by go_simp) (fun _ _ => by simp [execOp, go_sem]) ?_
  simp only [Act.put, pS]
  refine oz_tk (some 93) (.pointer (some ⟨b, 8192, none⟩)) rfl rfl (by go_simp) (fun _ _ => by simp [execOp, go_sem]) ?_
  simp only [Act.put, pS]
  refine oz_tk (some 94) (.pointer (some ⟨b, (8192 + pB x), none⟩)) rfl rfl (by go_simp) (fun _ _ => by have h := ix16 b (pB x) (pB_lt x); simp [execOp, go_sem, h, Result.andThen]) ?_
  simp only [Act.put, pS]
  refine oz_ld (some 95) 78 (.tmp 94) (.pointer (some ⟨b, (8192 + pB x), none⟩)) (.int .u64 (M.reg (pB x))) rfl rfl (by go_simp) rfl rfl (fun y hy => by have h := hy ▸ HZ.out.reg (pB_lt x); simp [Instr.loadAt, go_sem, h, Tryd.underlying78]) ?_
  simp only [Act.put, pS]
  refine oz_tk (some 96) (.pointer (some ⟨b, 8192, none⟩)) rfl rfl (by go_simp) (fun _ _ => by simp [execOp, go_sem]) ?_
  simp only [Act.put, pS]
  refine oz_tk (some 97) (.int .i64 (pC x)) rfl rfl (by go_simp) (fun _ _ => by simp [execOp, go_sem]) ?_
  simp only [Act.put, pS]
  refine oz_tk (some 98) (.pointer (some ⟨b, 8192, none⟩)) rfl rfl (by go_simp) (fun _ _ => by simp [execOp, go_sem]) ?_
  simp only [Act.put, pS]
  refine oz_tk (some 99) (.pointer (some ⟨b, (8192 + pC x), none⟩)) rfl rfl (by go_simp) (fun _ _ => by have h := ix16 b (pC x) (pC_lt x); simp [execOp, go_sem, h, Result.andThen]) ?_
  simp only [Act.put, pS]
  refine oz_ld (some 100) 78 (.tmp 99) (.pointer (some ⟨b, (8192 + pC x), none⟩)) (.int .u64 (M.reg (pC x))) rfl rfl (by go_simp) rfl rfl (fun y hy => by have h := hy ▸ HZ.out.reg (pC_lt x); simp [Instr.loadAt, go_sem, h, Tryd.underlying78]) ?_
  simp only [Act.put, pS]
  refine oz_fr (some 104) (.pointer (some ⟨b, 8192, none⟩)) rfl rfl (by go_simp) (fun _ => by simp [execOp, go_sem]) ?_
  simp only [Act.put, pS]
  refine oz_f rfl (by go_simp) fun K hK => ?_
  go_simp
  refine (HA.out y0).mono ?_
  rintro e y1 ⟨he, hy1⟩
  obtain rfl : e = _ := he
  subst hy1
  refine hK _ _ rfl ?_
  clear hK K
  refine oz_tk (some 82) (.tuple #[.int .u64 v, ec]) rfl rfl (by go_simp) (fun _ _ => by simp [execOp, go_sem]) ?_
  simp only [Act.put, pS]
  refine oz_tk (some 102) (.int .u64 v) rfl rfl (by go_simp) (fun _ _ => by simp [execOp, go_sem]) ?_
  simp only [Act.put, pS]
  refine oz_fr (some 103) (ec) rfl rfl (by go_simp) (fun _ => by simp [execOp, go_sem]) ?_
  simp only [Act.put, pS]
  refine oz_fr (some 105) (.pointer (some ⟨b, (8192 + pD x), none⟩)) rfl rfl (by go_simp) (fun _ => by have h := ix16 b (pD x) (pD_lt x); simp [execOp, go_sem, h, Result.andThen]) ?_
  simp only [Act.put, pS]
  have kd := HZ.out.reg (pD_lt x)
  have fd := HZ.out.fz (8192 + pD x)
  refine oz_z rfl (by go_simp) fun K hK => ?_
  go_simp
  refine hK _ _ ?_
  clear hK K kd fd
  refine oz_done (NoPanic.normal ?_)
  generalize y0.setCell ⟨b, 8192 + pD x, none⟩ (.int .u64 (v : Int)) = y1 at *
  have kp := HS.out.pc
  have fp := HS.out.fz 8208
  have HW : Hid (IntKind.u64.wrap ((M.pc : Int) + 1) = ((M.pc + 1 : Nat) : Int)) := Lib.hid (wrap_pc HP.out.pc)
  have H9 : Hid (IsMac (y1.setCell ⟨b, 8208, none⟩ (.int .u64 (IntKind.u64.wrap ((M.pc : Int) + 1)))) b { setR M (pD x) v with pc := M.pc + 1 }) := Lib.hid (by rw [HW.out]; exact HS.out.setPc (M.pc + 1))
  have K9 := Lib.hid (kept_set (S := fun k => k = b) HK.out b 8208 rfl (.int .u64 (IntKind.u64.wrap ((M.pc : Int) + 1))))
  generalize hpc : (M.pc : Int) = PC at *
  go_wp2_with (fail)
  subst hpc
  exact bodyPost_end (v := .tuple #[]) (by simp [results, Tryd.results65, go_sem]) rfl ⟨rfl, H9.out, K9.out⟩
end Vm
end Go.Proofs.YtdmffnjbholkkaaDoor
namespace Go.Proofs.YtdmffnjbholkkaaDoor
open Go.RowKit
set_option linter.unusedVariables false
set_option linter.unusedSimpArgs false
namespace Wt
/-- A value of noughts alone, built. -/
theorem wpList_buildM {P : Program} {ops : Array Oper} {rest : List Oper} {o : Oper} {a : Act} {w : World} {Q : Exit → Act → World → Prop} (hg : o.guard = none) (t : TypeId) (ho : o.op = .build t #[])
    (v : Value) (hl : (Instr.build t #[]).run P w = .ok v w) (h : wpList P ops Q rest (a.put o.dst v) w) : wpList P ops Q (o :: rest) a w :=
  wpList_plain hg fun _ hK => by
    unfold Oper.wp execOp
    simp only [ho]
    simp [hl, Result.andThen]
    exact hK _ _ h
end Wt
namespace Vm
open Kc
/-- A slice of words. -/
def IsWs (w : World) (b o : Nat) (n : Nat) (g : Nat → Nat) : Prop := ∀ j, j < n → w.cell? ⟨b, o + j, none⟩ = some (.int .u64 (g j))
def loaded (n : Nat) (g : Nat → Nat) : Mac := ⟨fun i => if i < n then g i else 0, fun _ => 0, 0, false, 0⟩
theorem mc_loaded (n : Nat) (g : Nat → Nat) (hn : n ≤ 8192) (i : Nat) (hi : i < 8211) : splv (mc m0) 0 n (fun j => .int .u64 (g j)) i = mc (loaded n g) i := by
  unfold splv mc loaded m0
  by_cases h : i < n
  · rw [if_pos ⟨by omega, by omega⟩, if_pos (by omega)]
    simp [h]
  · rw [if_neg (by omega)]
    by_cases h1 : i < 8192
    · rw [if_pos h1, if_pos h1]; simp [h]
    · rw [if_neg h1, if_neg h1]
theorem slM (q : Nat) (w : World) : (Instr.sliceAt 84 (.pointer (some ⟨q, 0, none⟩)) none none none).run Tryd.prog w = .ok (.slice (some ⟨q, 0, none⟩) 8192 8192) w := by
  have hu : Tryd.prog.underlying 84 = some (.array (Tryd.prog.arrayLen 84) (Tryd.prog.elem 84)) := by kernel_rfl
  have hl : Tryd.prog.arrayLen 84 = 8192 := by kernel_rfl
  have hs : (sizeOf (Tryd.prog.elem 84)).run Tryd.prog w = .ok 1 w := by kernel_rfl
  rw [run_sliceAt_array_all w _ ⟨q, 0, none⟩ hu, hs]
  simp [slicedAt, hl, add_at]
theorem undW : Tryd.prog.underlying 93 = some (.slice 78) := by kernel_rfl
theorem sizeW : (Tryd.prog.info? 78).map (·.size) = some 1 := by kernel_rfl
set_option maxHeartbeats 1000000 in
set_option maxRecDepth 100000 in
theorem load_walk (w : World) (bw ow n c : Nat) (g : Nat → Nat) (h : IsWs w bw ow n g) (hn : n ≤ 8192) :
    Calls Tryd.prog 39 #[.slice (some ⟨bw, ow, none⟩) n c] w fun e w' => e = .returned (.tuple #[.pointer (some ⟨w.heap.size, 0, none⟩), .nilIface]) ∧ IsMac w' w.heap.size (loaded n g) ∧ Below w.heap.size w w' := by
  have t1 : decide (8192 < (n : Int)) = false := by simp; omega
  have HBM := Lib.hid (buildM0 w)
  have HT : Hid (IsTab (w.alloc (.cells (tab 8211 (mc m0)) 87)) w.heap.size 87 8211 (mc m0)) := Lib.hid (IsTab.new w _ 8211 _)
  have HB : Hid (Below w.heap.size w (w.alloc (.cells (tab 8211 (mc m0)) 87))) := Lib.hid ((Below.refl _ _).alloc (Nat.le_refl _) _)
  have HC : Hid (∀ j, j < n → (w.alloc (.cells (tab 8211 (mc m0)) 87)).cell? ((⟨bw, ow, none⟩ : Addr).add j) = some (.int .u64 (g j))) := Lib.hid (fun j hj => by rw [add_at]; exact keep1 HB.out (h j hj))
  have HN := Lib.hid hn
  clear h hn
  generalize hz : (tab 8211 (mc m0)) = ck at *
  have HZ := Lib.hid hz
  clear hz
  go_enter Tryd.func39, Tryd.ntmps39
  go_upto_region 4 with ((with_reducible refine Wt.wpList_buildM (P := Tryd.prog) (w := w) ?_ 87 ?_ (.agg ck) HBM.out ?_); (· exact rfl); (· exact rfl))
  generalize w.alloc (.cells ck 87) = y at *
  have s1 := slM w.heap.size
  generalize hq : w.heap.size = q at *
  go_upto_region 5 with (refine wpList_copy_tab rfl (.tmp 14) (.tmp 15) 93 93 rfl 78 undW sizeW q 0 8192 8192 ⟨bw, ow, none⟩ n c rfl rfl 87 8211 (mc m0) HT.out n (by have := HN.out; omega) (fun j => .int .u64 (g j)) (fun j hj => HC.out j hj) (by have := HN.out; omega) (fun _ => rfl) ?_)
  have H9 : IsMac (World.setRow y q (tab 8211 (splv (mc m0) 0 n fun j => .int .u64 (g j)))) q (loaded n g) := (IsTab.row (f := mc m0) HT.out).cong fun i hi => mc_loaded n g HN.out i hi
  have HB9 : Below w.heap.size w (World.setRow y q (tab 8211 (splv (mc m0) 0 n fun j => .int .u64 (g j)))) := below_setRow (by rw [hq]; exact HB.out) (by rw [hq]; exact Nat.le_refl _) _
  have H9 := Lib.hid (And.intro H9 HB9)
  clear HB9
  generalize World.setRow y q (tab 8211 (splv (mc m0) 0 n fun j => .int .u64 (g j))) = y9 at *
  have HQ := Lib.hid hq
  clear hq s1
  go_wp2_with (fail)
  exact bodyPost_ret (v := .tuple #[.pointer (some ⟨q, 0, none⟩), .nilIface]) (by simp [results, Tryd.results39, go_sem]) rfl ⟨by rw [HQ.out], by rw [HQ.out]; exact H9.out.1, H9.out.2⟩
theorem wrap_up (i : Nat) (h : (i : Int) + 1 ≤ 9223372036854775807) : wrap64 ((i : Int) + 1) = ((i + 1 : Nat) : Int) := by
  unfold wrap64; omega
theorem meas_dn {i k : Nat} (h : i + 1 ≤ k) : k - (i + 1) < k - i := by omega
theorem meas_loop {i k : Nat} (h : i + 1 ≤ k) (hw : wrap64 ((i : Int) + 1) = ((i + 1 : Nat) : Int)) : k - (intOf (.int .i64 (wrap64 ((i : Int) + 1)))).toNat < k - (intOf (.int .i64 (i : Int))).toNat := by
  rw [hw]
  show k - (i + 1) < k - i
  exact meas_dn h
/-- Run, over a row of machines. -/
theorem run_walk (b s n k : Nat) (f : Nat → Mac) (I : Nat → World → Prop) (hI : ∀ i y, I i y → IsMac y b (f i))
    (hstep : ∀ i y, i < k → I i y → Calls Tryd.prog 65 #[.pointer (some ⟨b, 0, none⟩), .pointer (some ⟨s, 0, none⟩)] y fun e w' => e = .returned (.tuple #[]) ∧ I (i + 1) w')
    (hk : k ≤ n) (hh : ∀ i, i < k → (f i).halted = false) (hend : k = n ∨ (f k).halted = true) (hn : (n : Int) < 9223372036854775807) (w : World) (h0 : I 0 w) :
    Calls Tryd.prog 37 #[.pointer (some ⟨b, 0, none⟩), .pointer (some ⟨s, 0, none⟩), .int .i64 n] w fun e w' => e = .returned (.tuple #[.int .i64 k, .nilIface]) ∧ I k w' := by
  have t1 : decide ((n : Int) < 0) = false := by simp
  have HI := Lib.hid hI
  have HS := Lib.hid hstep
  have HH := Lib.hid hh
  have HE := Lib.hid hend
  have HK := Lib.hid (And.intro hk hn)
  have H0 := Lib.hid h0
  clear hI hstep hh hend hk h0 hn
  go_enter Tryd.func37, Tryd.ntmps37
  go_wp2_with (fail)
  clear t1
  go_loopw [8] (fun t y => ∃ i : Nat, t = .int .i64 i ∧ Hid (i ≤ k ∧ I i y)) (fun t _ => k - (intOf t).toNat)
  case atStart => exact ⟨0, rfl, Lib.hid ⟨Nat.zero_le _, H0.out⟩⟩
  case round =>
    obtain ⟨i, rfl, hp⟩ := hrel
    have HP := Lib.hid hp.out
    clear hp H0
    have kh := (HI.out i wr HP.out.2).halted
    by_cases hlt : i < k
    · have t1 : decide (i < n) = true := by have := HK.out.1; simp; omega
      have e1 : (f i).halted = false := HH.out i hlt
      rw [e1] at kh
      have HC := Lib.hid (HS.out i wr hlt HP.out.2)
      have HW : Hid (wrap64 ((i : Int) + 1) = ((i + 1 : Nat) : Int) ∧ i + 1 ≤ k) := Lib.hid ⟨wrap_up i (by have := HK.out; omega), hlt⟩
      clear hlt e1
      go_upto_region 8 with (go_at_call 65; (with_reducible refine HC.out.mono ?_); rintro e y1 ⟨he, hi⟩; obtain rfl : e = _ := he; have HI1 := Lib.hid hi; clear hi)
      have hw1 := HW.out.1
      go_wp2_with (fail)
      go_roundw
      case rel => exact ⟨i + 1, by go_num, Lib.hid ⟨HW.out.2, HI1.out⟩⟩
      case measure =>
        exact meas_loop HW.out.2 HW.out.1
    · obtain rfl : i = k := by have := HP.out.1; omega
      by_cases hkn : i < n
      · have t1 : decide (i < n) = true := by simp; omega
        have e1 : (f i).halted = true := HE.out.resolve_left (by omega)
        rw [e1] at kh
        clear hlt hkn
        go_wp2_with (fail)
        exact bodyPost_ret (v := .tuple #[.int .i64 i, .nilIface]) (by simp [results, Tryd.results37, go_sem]) rfl ⟨rfl, HP.out.2⟩
      · have t1 : decide (i < n) = false := by simp; omega
        clear hlt hkn
        go_wp2_with (fail)
        exact bodyPost_ret (v := .tuple #[.int .i64 i, .nilIface]) (by simp [results, Tryd.results37, go_sem]) rfl ⟨rfl, HP.out.2⟩
end Vm
end Go.Proofs.YtdmffnjbholkkaaDoor
namespace Go.Proofs.YtdmffnjbholkkaaDoor
open Go.RowKit
set_option linter.unusedVariables false
set_option linter.unusedSimpArgs false
namespace Vm
open Kc
def fx : List Int := [26, 1, 0, 0, 0, 5, 26, 2, 0, 0, 0, -3, 1, 3, 1, 2, 0, 0, 0, 0, 3, 0, 0, 0]
def ws : List Nat := [1878001044613496837, 1882504648535834621, 85885052268838912, 844424930131968]
def wv' (x : Nat) : Value := .int .u64 (x : Int)
structure Fx (W : World) (q k : Nat) (V : Value) (y : World) : Prop where
  tab : IsTab y q 147 24 fun i => .int .i64 (fx.getD i 0)
  row : y.ownsRow (q + 1) 78 1 V k ((ws.take k).map wv')
  below : Below W.heap.size W y
  q0 : W.heap.size = q
theorem infoW : ∃ i, Tryd.prog.info? 78 = some i ∧ i.zero = some (.int .u64 0) ∧ i.size = 1 ∧ i.bytes = 8 := by
  refine ⟨(Tryd.prog.info? 78).get (by kernel_rfl), by kernel_rfl, by kernel_rfl, by kernel_rfl, by kernel_rfl⟩
theorem cV0 : codeV (26) (1) (0) (0) (0) (5) = .tuple #[.int .u64 1878001044613496837, .nilIface] := by
  unfold codeV
  rw [if_pos (by decide)]
  rfl
theorem code0 (y : World) : Calls Tryd.prog 42 #[.int .i64 26, .int .i64 1, .int .i64 0, .int .i64 0, .int .i64 0, .int .i64 5] y fun e w' => e = .returned (.tuple #[.int .u64 1878001044613496837, .nilIface]) ∧ y = w' := by
  have := code_walk y (26) (1) (0) (0) (0) (5)
  rw [cV0] at this
  exact this
theorem cV1 : codeV (26) (2) (0) (0) (0) (-3) = .tuple #[.int .u64 1882504648535834621, .nilIface] := by
  unfold codeV
  rw [if_pos (by decide)]
  rfl
theorem code1 (y : World) : Calls Tryd.prog 42 #[.int .i64 26, .int .i64 2, .int .i64 0, .int .i64 0, .int .i64 0, .int .i64 (-3)] y fun e w' => e = .returned (.tuple #[.int .u64 1882504648535834621, .nilIface]) ∧ y = w' := by
  have := code_walk y (26) (2) (0) (0) (0) (-3)
  rw [cV1] at this
  exact this
theorem cV2 : codeV (1) (3) (1) (2) (0) (0) = .tuple #[.int .u64 85885052268838912, .nilIface] := by
  unfold codeV
  rw [if_pos (by decide)]
  rfl
theorem code2 (y : World) : Calls Tryd.prog 42 #[.int .i64 1, .int .i64 3, .int .i64 1, .int .i64 2, .int .i64 0, .int .i64 0] y fun e w' => e = .returned (.tuple #[.int .u64 85885052268838912, .nilIface]) ∧ y = w' := by
  have := code_walk y (1) (3) (1) (2) (0) (0)
  rw [cV2] at this
  exact this
theorem cV3 : codeV (0) (0) (3) (0) (0) (0) = .tuple #[.int .u64 844424930131968, .nilIface] := by
  unfold codeV
  rw [if_pos (by decide)]
  rfl
theorem code3 (y : World) : Calls Tryd.prog 42 #[.int .i64 0, .int .i64 0, .int .i64 3, .int .i64 0, .int .i64 0, .int .i64 0] y fun e w' => e = .returned (.tuple #[.int .u64 844424930131968, .nilIface]) ∧ y = w' := by
  have := code_walk y (0) (0) (3) (0) (0) (0)
  rw [cV3] at this
  exact this
theorem Fx.below' {W y y' : World} {q k : Nat} {V : Value} (h : Fx W q k V y) (hb : Below y.heap.size y y') : Fx W q k V y' :=
  ⟨h.tab.below hb, (Kept.ofBelow (S := fun _ => False) hb).row h.row (fun _ _ h => h), bl h.below hb, h.q0⟩
theorem Fx.grown {W y y' : World} {q k : Nat} {V V' : Value} (h : Fx W q k V y) (x : Nat) (hx : (ws.take k).map wv' ++ [.int .u64 (x : Int)] = (ws.take (k + 1)).map wv')
    (hr : y'.ownsRow (q + 1) 78 1 V' (k + 1) ((ws.take k).map wv' ++ [.int .u64 (x : Int)])) (hg : y.grownBy y' V.ownBlock) : Fx W q (k + 1) V' y' := by
  have hne : ∀ j, V.ownBlock = some j → q + 1 ≤ j := fun j hj => owns_base h.row hj
  refine ⟨?_, by rw [← hx]; exact hr, below_grown (Nat.le_refl _) h.below hg fun j hj => by have := hne j hj; have := h.q0; omega, h.q0⟩
  have := hg.block q h.tab.lt (fun e => by have := hne q e.symm; omega)
  exact this.trans h.tab
/-- The four machines' beginning, and their steps. -/
def wf (j : Nat) : Nat := ws.getD j 0
def fm : Nat → Mac
  | 0 => loaded 4 wf
  | 1 => { setR (loaded 4 wf) 1 5 with pc := 1 }
  | 2 => { setR (setR (loaded 4 wf) 1 5) 2 18446744073709551613 with pc := 2 }
  | 3 => { setR (setR (setR (loaded 4 wf) 1 5) 2 18446744073709551613) 3 2 with pc := 3 }
  | _ => stopM { setR (setR (setR (loaded 4 wf) 1 5) 2 18446744073709551613) 3 2 with pc := 4 } 2
theorem wf_lt (j : Nat) : wf j < 18446744073709551616 := by
  unfold wf ws
  rcases j with _ | _ | _ | _ | j <;> simp
theorem ok_loaded (n : Nat) (g : Nat → Nat) (h : ∀ i, g i < 18446744073709551616) : OkM (loaded n g) := by
  refine ⟨fun i => ?_, fun i => by unfold loaded; simp, by unfold loaded; simp, by unfold loaded; simp⟩
  unfold loaded
  simp only
  split
  · exact h i
  · decide
theorem ok_setR {M : Mac} (h : OkM M) (d v : Nat) (hv : v < 18446744073709551616) : OkM (setR M d v) := by
  refine ⟨h.mem, fun i => ?_, h.pc, h.exit⟩
  unfold setR
  simp only
  split
  · exact hv
  · exact h.reg i
theorem ok_pc {M : Mac} (h : OkM M) (p : Nat) (hp : p < 18446744073709551616) : OkM { M with pc := p } := ⟨h.mem, h.reg, hp, h.exit⟩
set_option maxHeartbeats 400000 in
theorem apply_add (a b c : Int) (w : World) (ha : 0 ≤ a) (hb : 0 ≤ b) :
    Calls Tryd.prog 79 #[.int .i64 1, .int .u64 a, .int .u64 b, .int .u64 c] w fun e w' => e = .returned (.tuple #[.int .u64 (IntKind.u64.wrap (a + b)), .nilIface]) ∧ w = w' := by
  go_enter Tryd.func79, Tryd.ntmps79
  go_wp2
  go_ret2
  exact ⟨rfl, rfl⟩
/-- The machine's step, from each of the four. -/
theorem fm_step (b s i : Nat) (W y : World) (hi : i < 4) (hb : W.heap.size ≤ b) (h : IsMac y b (fm i) ∧ Below W.heap.size W y) :
    Calls Tryd.prog 65 #[.pointer (some ⟨b, 0, none⟩), .pointer (some ⟨s, 0, none⟩)] y fun e w' => e = .returned (.tuple #[]) ∧ (IsMac w' b (fm (i + 1)) ∧ Below W.heap.size W w') := by
  have fin : ∀ {w' : World} {M' : Mac}, IsMac w' b M' → M' = fm (i + 1) → Kept (fun k => k = b) y w' → IsMac w' b (fm (i + 1)) ∧ Below W.heap.size W w' := fun h1 h2 h3 => ⟨h2 ▸ h1, Wt.below_of h.2 h3 fun j _ hj => by rw [hj]; exact hb⟩
  have hi4 : i = 0 ∨ i = 1 ∨ i = 2 ∨ i = 3 := by omega
  rcases hi4 with rfl | rfl | rfl | rfl
  · refine (step_li y b s (fm 0) (ws.getD 0 0) ⟨h.1, ok_loaded 4 wf wf_lt, rfl, by decide, rfl, by decide⟩ (by decide)).mono ?_
    rintro e w' ⟨he, h1, h2⟩
    exact ⟨he, fin h1 (by rfl) h2⟩
  · refine (step_li y b s (fm 1) (ws.getD 1 0) ⟨h.1, ok_pc (ok_setR (ok_loaded 4 wf wf_lt) 1 5 (by decide)) 1 (by decide), rfl, by decide, rfl, by decide⟩ (by decide)).mono ?_
    rintro e w' ⟨he, h1, h2⟩
    exact ⟨he, fin h1 (by rfl) h2⟩
  · refine (step_app y b s (fm 2) (ws.getD 2 0) ⟨h.1, ok_pc (ok_setR (ok_setR (ok_loaded 4 wf wf_lt) 1 5 (by decide)) 2 _ (by decide)) 2 (by decide), rfl, by decide, rfl, by decide⟩ (by decide) 2 .nilIface (fun z => apply_add 5 18446744073709551613 0 z (by decide) (by decide))).mono ?_
    rintro e w' ⟨he, h1, h2⟩
    exact ⟨he, fin h1 (by rfl) h2⟩
  · refine (step_halt y b s (fm 3) (ws.getD 3 0) ⟨h.1, ok_pc (ok_setR (ok_setR (ok_setR (ok_loaded 4 wf wf_lt) 1 5 (by decide)) 2 _ (by decide)) 3 2 (by decide)) 3 (by decide), rfl, by decide, rfl, by decide⟩ (by decide)).mono ?_
    rintro e w' ⟨he, h1, h2⟩
    exact ⟨he, fin h1 (by rfl) h2⟩
/-- A row of words of the call's own, as a slice. -/
theorem ws_of {w : World} {q n : Nat} {V : Value} (l : List Nat) (hn : n = l.length) (h : w.ownsRow q 78 1 V n (l.map wv')) (h0 : 0 < n) :
    ∃ g cap, V = .slice (some ⟨g, 0, none⟩) n cap ∧ IsWs w g 0 n fun j => l.getD j 0 := by
  subst hn
  obtain ⟨_, h1⟩ := h
  rcases h1 with ⟨rfl, e⟩ | ⟨g, cap, cur, rfl, hg, hc, hnc, hm, hs, ht⟩
  · omega
  · refine ⟨g, cap, rfl, fun j hj => ?_⟩
    have e1 : (cur.toList.take (l.length * 1))[j]? = (l.map wv')[j]? := by rw [ht]
    rw [List.getElem?_take, if_pos (by omega)] at e1
    rw [Nat.zero_add, cell_of_row w g j _ _ _ hc]
    have e2 : cur[j]? = (l.map wv')[j]? := by simpa using e1
    rw [e2]
    simp [hj, wv']
theorem fm_run (b s : Nat) (W y : World) (hb : W.heap.size ≤ b) (hm : IsMac y b (loaded 4 wf)) (hB : Below W.heap.size W y) :
    Calls Tryd.prog 37 #[.pointer (some ⟨b, 0, none⟩), .pointer (some ⟨s, 0, none⟩), .int .i64 99] y fun e w' => e = .returned (.tuple #[.int .i64 4, .nilIface]) ∧ (IsMac w' b (fm 4) ∧ Below W.heap.size W w') :=
  run_walk b s 99 4 fm (fun i y => IsMac y b (fm i) ∧ Below W.heap.size W y) (fun i y h => h.1) (fun i y hi h => fm_step b s i W y hi hb h) (by decide)
    (fun i hi => by
      have : i = 0 ∨ i = 1 ∨ i = 2 ∨ i = 3 := by omega
      rcases this with rfl | rfl | rfl | rfl <;> rfl) (.inr rfl) (by decide) y ⟨hm, hB⟩
set_option maxHeartbeats 2000000 in
set_option maxRecDepth 100000 in
theorem fixed10_walk (w : World) (ht : Laid.KTab w) (hlo : Wt.lowB ≤ w.heap.size) : Calls Tryd.prog 35 #[] w fun e w' => e = .returned (.bool true) ∧ Below w.heap.size w w' := by
  obtain ⟨i0, hi0⟩ := infoW
  have HI := Lib.hid hi0
  have H0 : Hid (Fx w w.heap.size 0 (.slice none 0 0) (w.alloc (.cells #[.int .i64 26, .int .i64 1, .int .i64 0, .int .i64 0, .int .i64 0, .int .i64 5, .int .i64 26, .int .i64 2, .int .i64 0, .int .i64 0, .int .i64 0, .int .i64 (-3), .int .i64 1, .int .i64 3, .int .i64 1, .int .i64 2, .int .i64 0, .int .i64 0, .int .i64 0, .int .i64 0, .int .i64 3, .int .i64 0, .int .i64 0, .int .i64 0] 147))) := Lib.hid
    ⟨IsTab.new w _ 24 fun i => .int .i64 (fx.getD i 0), World.ownsRow_nil _ _ _ _, (Below.refl _ _).alloc (Nat.le_refl _) _, rfl⟩
  have HKT := Lib.hid (And.intro ht hlo)
  clear ht hlo hi0
  go_enter Tryd.func35, Tryd.ntmps35
  go_upto_region 3 with (fail)
  generalize w.alloc (.cells #[.int .i64 26, .int .i64 1, .int .i64 0, .int .i64 0, .int .i64 0, .int .i64 5, .int .i64 26, .int .i64 2, .int .i64 0, .int .i64 0, .int .i64 0, .int .i64 (-3), .int .i64 1, .int .i64 3, .int .i64 1, .int .i64 2, .int .i64 0, .int .i64 0, .int .i64 0, .int .i64 0, .int .i64 3, .int .i64 0, .int .i64 0, .int .i64 0] 147) = y0 at *
  generalize w.heap.size = q at *
  go_loopw [15, 1] (fun t V y => ∃ k : Nat, k ≤ 4 ∧ t = .int .i64 k ∧ Hid (Fx w q k V y)) (fun t _ _ => 4 - (intOf t).toNat)
  case atStart => exact ⟨0, by decide, rfl, H0⟩
  case round =>
    obtain ⟨k, hk, rfl, hp⟩ := hrel
    have HP := Lib.hid hp.out
    clear hp H0
    have hk5 : k = 0 ∨ k = 1 ∨ k = 2 ∨ k = 3 ∨ k = 4 := by omega
    clear hk
    rcases hk5 with rfl | rfl | rfl | rfl | rfl
    · skip
      have c0 : wr.cell? ⟨q, 0, none⟩ = some (.int .i64 26) := HP.out.tab.cell 0 (by decide)
      have c1 : wr.cell? ⟨q, 1, none⟩ = some (.int .i64 1) := HP.out.tab.cell 1 (by decide)
      have c2 : wr.cell? ⟨q, 2, none⟩ = some (.int .i64 0) := HP.out.tab.cell 2 (by decide)
      have c3 : wr.cell? ⟨q, 3, none⟩ = some (.int .i64 0) := HP.out.tab.cell 3 (by decide)
      have c4 : wr.cell? ⟨q, 4, none⟩ = some (.int .i64 0) := HP.out.tab.cell 4 (by decide)
      have c5 : wr.cell? ⟨q, 5, none⟩ = some (.int .i64 5) := HP.out.tab.cell 5 (by decide)
      go_upto_region 5 with (fail)
      have HP1 := Lib.hid (HP.out.below' ((Below.refl wr.heap.size wr).alloc (Nat.le_refl _) (.cells #[.int .i64 26, .int .i64 1, .int .i64 0, .int .i64 0, .int .i64 0, .int .i64 5] 147)))
      have HD : Hid (IsTab (wr.alloc (.cells #[.int .i64 26, .int .i64 1, .int .i64 0, .int .i64 0, .int .i64 0, .int .i64 5] 147)) wr.heap.size 147 6 fun i => .int .i64 (([26, 1, 0, 0, 0, 5] : List Int).getD i 0)) := Lib.hid (IsTab.new wr _ 6 fun i => .int .i64 (([26, 1, 0, 0, 0, 5] : List Int).getD i 0))
      clear c0 c1 c2 c3 c4 c5 HP
      generalize wr.alloc (.cells #[.int .i64 26, .int .i64 1, .int .i64 0, .int .i64 0, .int .i64 0, .int .i64 5] 147) = y1 at *
      generalize wr.heap.size = qa at *
      have c0 : y1.cell? ⟨qa, 0, none⟩ = some (.int .i64 26) := HD.out.cell 0 (by decide)
      have c1 : y1.cell? ⟨qa, 1, none⟩ = some (.int .i64 1) := HD.out.cell 1 (by decide)
      have c2 : y1.cell? ⟨qa, 2, none⟩ = some (.int .i64 0) := HD.out.cell 2 (by decide)
      have c3 : y1.cell? ⟨qa, 3, none⟩ = some (.int .i64 0) := HD.out.cell 3 (by decide)
      have c4 : y1.cell? ⟨qa, 4, none⟩ = some (.int .i64 0) := HD.out.cell 4 (by decide)
      have c5 : y1.cell? ⟨qa, 5, none⟩ = some (.int .i64 5) := HD.out.cell 5 (by decide)
      have HC := Lib.hid (code0 y1)
      go_upto_region 8 with (go_at_call 42; (with_reducible refine HC.out.mono ?_); rintro e y2 ⟨he, hy⟩; obtain rfl : e = _ := he; subst hy)
      clear c0 c1 c2 c3 c4 c5 HD HC
      have HP2 := Lib.hid (HP1.out.below' ((Below.refl y1.heap.size y1).alloc (Nat.le_refl _) (.cells #[.int .u64 1878001044613496837] 78)))
      have HQ : Hid (q + 1 ≤ (y1.alloc (.cells #[.int .u64 1878001044613496837] 78)).heap.size) := Lib.hid (by have := HP2.out.tab.lt; omega)
      go_wp2_with (refine wpList_append_at _ rfl (.tmp 37) (.tmp 39) 93 rfl (q + 1) 78 i0 (.int .u64 0) 1 8 undW HI.out rfl (by decide) u1 0 ((ws.take 0).map wv') rfl HP2.out.row ⟨y1.heap.size, 0, none⟩ 1 1 [.int .u64 1878001044613496837] rfl rfl (one_at rfl _ _) (by intro u hu; simp at hu; subst hu; rfl) (by decide) (by decide) HQ.out ?_; intro V3 y3 hown3 hgr3 hat3; have HF3 := Lib.hid (HP2.out.grown 1878001044613496837 rfl hown3 hgr3); clear hown3 hgr3 hat3)
      go_roundw
      case rel => exact ⟨1, by decide, rfl, HF3⟩
      case measure => simp [intOf]
    · skip
      have c0 : wr.cell? ⟨q, 6, none⟩ = some (.int .i64 26) := HP.out.tab.cell 6 (by decide)
      have c1 : wr.cell? ⟨q, 7, none⟩ = some (.int .i64 2) := HP.out.tab.cell 7 (by decide)
      have c2 : wr.cell? ⟨q, 8, none⟩ = some (.int .i64 0) := HP.out.tab.cell 8 (by decide)
      have c3 : wr.cell? ⟨q, 9, none⟩ = some (.int .i64 0) := HP.out.tab.cell 9 (by decide)
      have c4 : wr.cell? ⟨q, 10, none⟩ = some (.int .i64 0) := HP.out.tab.cell 10 (by decide)
      have c5 : wr.cell? ⟨q, 11, none⟩ = some (.int .i64 (-3)) := HP.out.tab.cell 11 (by decide)
      go_upto_region 5 with (fail)
      have HP1 := Lib.hid (HP.out.below' ((Below.refl wr.heap.size wr).alloc (Nat.le_refl _) (.cells #[.int .i64 26, .int .i64 2, .int .i64 0, .int .i64 0, .int .i64 0, .int .i64 (-3)] 147)))
      have HD : Hid (IsTab (wr.alloc (.cells #[.int .i64 26, .int .i64 2, .int .i64 0, .int .i64 0, .int .i64 0, .int .i64 (-3)] 147)) wr.heap.size 147 6 fun i => .int .i64 (([26, 2, 0, 0, 0, -3] : List Int).getD i 0)) := Lib.hid (IsTab.new wr _ 6 fun i => .int .i64 (([26, 2, 0, 0, 0, -3] : List Int).getD i 0))
      clear c0 c1 c2 c3 c4 c5 HP
      generalize wr.alloc (.cells #[.int .i64 26, .int .i64 2, .int .i64 0, .int .i64 0, .int .i64 0, .int .i64 (-3)] 147) = y1 at *
      generalize wr.heap.size = qa at *
      have c0 : y1.cell? ⟨qa, 0, none⟩ = some (.int .i64 26) := HD.out.cell 0 (by decide)
      have c1 : y1.cell? ⟨qa, 1, none⟩ = some (.int .i64 2) := HD.out.cell 1 (by decide)
      have c2 : y1.cell? ⟨qa, 2, none⟩ = some (.int .i64 0) := HD.out.cell 2 (by decide)
      have c3 : y1.cell? ⟨qa, 3, none⟩ = some (.int .i64 0) := HD.out.cell 3 (by decide)
      have c4 : y1.cell? ⟨qa, 4, none⟩ = some (.int .i64 0) := HD.out.cell 4 (by decide)
      have c5 : y1.cell? ⟨qa, 5, none⟩ = some (.int .i64 (-3)) := HD.out.cell 5 (by decide)
      have HC := Lib.hid (code1 y1)
      go_upto_region 8 with (go_at_call 42; (with_reducible refine HC.out.mono ?_); rintro e y2 ⟨he, hy⟩; obtain rfl : e = _ := he; subst hy)
      clear c0 c1 c2 c3 c4 c5 HD HC
      have HP2 := Lib.hid (HP1.out.below' ((Below.refl y1.heap.size y1).alloc (Nat.le_refl _) (.cells #[.int .u64 1882504648535834621] 78)))
      have HQ : Hid (q + 1 ≤ (y1.alloc (.cells #[.int .u64 1882504648535834621] 78)).heap.size) := Lib.hid (by have := HP2.out.tab.lt; omega)
      go_wp2_with (refine wpList_append_at _ rfl (.tmp 37) (.tmp 39) 93 rfl (q + 1) 78 i0 (.int .u64 0) 1 8 undW HI.out rfl (by decide) u1 1 ((ws.take 1).map wv') rfl HP2.out.row ⟨y1.heap.size, 0, none⟩ 1 1 [.int .u64 1882504648535834621] rfl rfl (one_at rfl _ _) (by intro u hu; simp at hu; subst hu; rfl) (by decide) (by decide) HQ.out ?_; intro V3 y3 hown3 hgr3 hat3; have HF3 := Lib.hid (HP2.out.grown 1882504648535834621 rfl hown3 hgr3); clear hown3 hgr3 hat3)
      go_roundw
      case rel => exact ⟨2, by decide, rfl, HF3⟩
      case measure => simp [intOf]
    · skip
      have c0 : wr.cell? ⟨q, 12, none⟩ = some (.int .i64 1) := HP.out.tab.cell 12 (by decide)
      have c1 : wr.cell? ⟨q, 13, none⟩ = some (.int .i64 3) := HP.out.tab.cell 13 (by decide)
      have c2 : wr.cell? ⟨q, 14, none⟩ = some (.int .i64 1) := HP.out.tab.cell 14 (by decide)
      have c3 : wr.cell? ⟨q, 15, none⟩ = some (.int .i64 2) := HP.out.tab.cell 15 (by decide)
      have c4 : wr.cell? ⟨q, 16, none⟩ = some (.int .i64 0) := HP.out.tab.cell 16 (by decide)
      have c5 : wr.cell? ⟨q, 17, none⟩ = some (.int .i64 0) := HP.out.tab.cell 17 (by decide)
      go_upto_region 5 with (fail)
      have HP1 := Lib.hid (HP.out.below' ((Below.refl wr.heap.size wr).alloc (Nat.le_refl _) (.cells #[.int .i64 1, .int .i64 3, .int .i64 1, .int .i64 2, .int .i64 0, .int .i64 0] 147)))
      have HD : Hid (IsTab (wr.alloc (.cells #[.int .i64 1, .int .i64 3, .int .i64 1, .int .i64 2, .int .i64 0, .int .i64 0] 147)) wr.heap.size 147 6 fun i => .int .i64 (([1, 3, 1, 2, 0, 0] : List Int).getD i 0)) := Lib.hid (IsTab.new wr _ 6 fun i => .int .i64 (([1, 3, 1, 2, 0, 0] : List Int).getD i 0))
      clear c0 c1 c2 c3 c4 c5 HP
      generalize wr.alloc (.cells #[.int .i64 1, .int .i64 3, .int .i64 1, .int .i64 2, .int .i64 0, .int .i64 0] 147) = y1 at *
      generalize wr.heap.size = qa at *
      have c0 : y1.cell? ⟨qa, 0, none⟩ = some (.int .i64 1) := HD.out.cell 0 (by decide)
      have c1 : y1.cell? ⟨qa, 1, none⟩ = some (.int .i64 3) := HD.out.cell 1 (by decide)
      have c2 : y1.cell? ⟨qa, 2, none⟩ = some (.int .i64 1) := HD.out.cell 2 (by decide)
      have c3 : y1.cell? ⟨qa, 3, none⟩ = some (.int .i64 2) := HD.out.cell 3 (by decide)
      have c4 : y1.cell? ⟨qa, 4, none⟩ = some (.int .i64 0) := HD.out.cell 4 (by decide)
      have c5 : y1.cell? ⟨qa, 5, none⟩ = some (.int .i64 0) := HD.out.cell 5 (by decide)
      have HC := Lib.hid (code2 y1)
      go_upto_region 8 with (go_at_call 42; (with_reducible refine HC.out.mono ?_); rintro e y2 ⟨he, hy⟩; obtain rfl : e = _ := he; subst hy)
      clear c0 c1 c2 c3 c4 c5 HD HC
      have HP2 := Lib.hid (HP1.out.below' ((Below.refl y1.heap.size y1).alloc (Nat.le_refl _) (.cells #[.int .u64 85885052268838912] 78)))
      have HQ : Hid (q + 1 ≤ (y1.alloc (.cells #[.int .u64 85885052268838912] 78)).heap.size) := Lib.hid (by have := HP2.out.tab.lt; omega)
      go_wp2_with (refine wpList_append_at _ rfl (.tmp 37) (.tmp 39) 93 rfl (q + 1) 78 i0 (.int .u64 0) 1 8 undW HI.out rfl (by decide) u1 2 ((ws.take 2).map wv') rfl HP2.out.row ⟨y1.heap.size, 0, none⟩ 1 1 [.int .u64 85885052268838912] rfl rfl (one_at rfl _ _) (by intro u hu; simp at hu; subst hu; rfl) (by decide) (by decide) HQ.out ?_; intro V3 y3 hown3 hgr3 hat3; have HF3 := Lib.hid (HP2.out.grown 85885052268838912 rfl hown3 hgr3); clear hown3 hgr3 hat3)
      go_roundw
      case rel => exact ⟨3, by decide, rfl, HF3⟩
      case measure => simp [intOf]
    · skip
      have c0 : wr.cell? ⟨q, 18, none⟩ = some (.int .i64 0) := HP.out.tab.cell 18 (by decide)
      have c1 : wr.cell? ⟨q, 19, none⟩ = some (.int .i64 0) := HP.out.tab.cell 19 (by decide)
      have c2 : wr.cell? ⟨q, 20, none⟩ = some (.int .i64 3) := HP.out.tab.cell 20 (by decide)
      have c3 : wr.cell? ⟨q, 21, none⟩ = some (.int .i64 0) := HP.out.tab.cell 21 (by decide)
      have c4 : wr.cell? ⟨q, 22, none⟩ = some (.int .i64 0) := HP.out.tab.cell 22 (by decide)
      have c5 : wr.cell? ⟨q, 23, none⟩ = some (.int .i64 0) := HP.out.tab.cell 23 (by decide)
      go_upto_region 5 with (fail)
      have HP1 := Lib.hid (HP.out.below' ((Below.refl wr.heap.size wr).alloc (Nat.le_refl _) (.cells #[.int .i64 0, .int .i64 0, .int .i64 3, .int .i64 0, .int .i64 0, .int .i64 0] 147)))
      have HD : Hid (IsTab (wr.alloc (.cells #[.int .i64 0, .int .i64 0, .int .i64 3, .int .i64 0, .int .i64 0, .int .i64 0] 147)) wr.heap.size 147 6 fun i => .int .i64 (([0, 0, 3, 0, 0, 0] : List Int).getD i 0)) := Lib.hid (IsTab.new wr _ 6 fun i => .int .i64 (([0, 0, 3, 0, 0, 0] : List Int).getD i 0))
      clear c0 c1 c2 c3 c4 c5 HP
      generalize wr.alloc (.cells #[.int .i64 0, .int .i64 0, .int .i64 3, .int .i64 0, .int .i64 0, .int .i64 0] 147) = y1 at *
      generalize wr.heap.size = qa at *
      have c0 : y1.cell? ⟨qa, 0, none⟩ = some (.int .i64 0) := HD.out.cell 0 (by decide)
      have c1 : y1.cell? ⟨qa, 1, none⟩ = some (.int .i64 0) := HD.out.cell 1 (by decide)
      have c2 : y1.cell? ⟨qa, 2, none⟩ = some (.int .i64 3) := HD.out.cell 2 (by decide)
      have c3 : y1.cell? ⟨qa, 3, none⟩ = some (.int .i64 0) := HD.out.cell 3 (by decide)
      have c4 : y1.cell? ⟨qa, 4, none⟩ = some (.int .i64 0) := HD.out.cell 4 (by decide)
      have c5 : y1.cell? ⟨qa, 5, none⟩ = some (.int .i64 0) := HD.out.cell 5 (by decide)
      have HC := Lib.hid (code3 y1)
      go_upto_region 8 with (go_at_call 42; (with_reducible refine HC.out.mono ?_); rintro e y2 ⟨he, hy⟩; obtain rfl : e = _ := he; subst hy)
      clear c0 c1 c2 c3 c4 c5 HD HC
      have HP2 := Lib.hid (HP1.out.below' ((Below.refl y1.heap.size y1).alloc (Nat.le_refl _) (.cells #[.int .u64 844424930131968] 78)))
      have HQ : Hid (q + 1 ≤ (y1.alloc (.cells #[.int .u64 844424930131968] 78)).heap.size) := Lib.hid (by have := HP2.out.tab.lt; omega)
      go_wp2_with (refine wpList_append_at _ rfl (.tmp 37) (.tmp 39) 93 rfl (q + 1) 78 i0 (.int .u64 0) 1 8 undW HI.out rfl (by decide) u1 3 ((ws.take 3).map wv') rfl HP2.out.row ⟨y1.heap.size, 0, none⟩ 1 1 [.int .u64 844424930131968] rfl rfl (one_at rfl _ _) (by intro u hu; simp at hu; subst hu; rfl) (by decide) (by decide) HQ.out ?_; intro V3 y3 hown3 hgr3 hat3; have HF3 := Lib.hid (HP2.out.grown 844424930131968 rfl hown3 hgr3); clear hown3 hgr3 hat3)
      go_roundw
      case rel => exact ⟨4, by decide, rfl, HF3⟩
      case measure => simp [intOf]
    · skip
      obtain ⟨g, cap, rfl, hw⟩ := ws_of (n := 4) (ws.take 4) rfl HP.out.row (by decide)
      have HLD := Lib.hid (load_walk wr g 0 4 cap wf hw (by decide))
      have HB0 : Hid (Below w.heap.size w wr ∧ w.heap.size ≤ wr.heap.size) := Lib.hid ⟨HP.out.below, HP.out.below.size⟩
      have HKW : Hid (Laid.KTab wr ∧ Wt.lowB ≤ wr.heap.size) := Lib.hid ⟨ktab_below HKT.out.1 HP.out.below, by have := HP.out.below.size; have := HP.out.q0; have := HKT.out.2; omega⟩
      clear hw HP HKT
      go_upto_region 11 with (go_at_call 39; (with_reducible refine HLD.out.mono ?_); rintro e y1 ⟨he, hm, hb⟩; obtain rfl : e = _ := he; have HM := Lib.hid hm; have HB := Lib.hid hb; clear hm hb)
      have HB1 : Hid (Below w.heap.size w y1 ∧ w.heap.size ≤ wr.heap.size) := Lib.hid ⟨bl HB0.out.1 HB.out, HB0.out.2⟩
      have HN := Lib.hid (Wt.New_walk y1 (ktab_below HKW.out.1 HB.out) (Nat.le_trans HKW.out.2 HB.out.size))
      clear HLD HB0 HKW HB
      generalize wr.heap.size = b at *
      go_upto_region 13 with (fail)
      go_wp2_with (first
        | (go_at_call 13; (with_reducible refine HN.out.mono ?_); rintro e y2 ⟨s, T, kb, fb, he, hst, hb, hx⟩; obtain rfl : e = _ := he; have HM2 := Lib.hid (HM.out.below hb); have HB2 : Hid (Below w.heap.size w y2) := Lib.hid (bl HB1.out.1 hb); have HR := Lib.hid (fm_run b s w y2 HB1.out.2 HM2.out HB2.out); clear hst hb hx HN)
        | (go_at_call 37; (with_reducible refine HR.out.mono ?_); rintro e y3 ⟨he, hm, hb⟩; obtain rfl : e = _ := he; have k1 : y3.cell? ⟨b, 8209, none⟩ = some (.bool true) := hm.halted; have k2 : y3.cell? ⟨b, 8210, none⟩ = some (.int .u64 2) := hm.exit; have HB3 := Lib.hid hb; clear hm hb HR))
      exact bodyPost_ret (v := .bool true) (by simp [results, Tryd.results35, go_sem]) rfl ⟨rfl, HB3.out⟩
end Vm
end Go.Proofs.YtdmffnjbholkkaaDoor
