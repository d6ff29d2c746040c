/-
  vm.Code. Written by genYb.py. Own work.
-/
import Derived.Test.YtdmffnjbholkkaaDoorYa
import Derived.Deep.Slices
namespace Go.Proofs.YtdmffnjbholkkaaDoor
open Go.RowKit
set_option linter.unusedVariables false
set_option linter.unusedSimpArgs false
section
variable {P : Program}
theorem wpList_indexE {ops : Array Oper} {rest : List Oper} {o : Oper} {a : Act} {w : World} {Q : Exit → Act → World → Prop} (hg : o.guard = none) (ty : TypeId) (x i : Operand) (ho : o.op = .index ty x i) (vx vi v : Value) (hx : a.eval x = vx) (hi : a.eval i = vi)
    (hl : (Instr.index ty vx vi).run P w = .ok v w) (h : wpList P ops Q rest (a.put o.dst v) w) : wpList P ops Q (o :: rest) a w :=
  wpList_plain hg fun _ hK => by
    unfold Oper.wp execOp
    simp only [ho, hx, hi]
    simp [hl, Result.andThen]
    exact hK _ _ h
end
namespace Vm
/-- Is a register one? -/
def gd (x : Int) : Prop := 0 ≤ x ∧ x ≤ 15
instance (x : Int) : Decidable (gd x) := by unfold gd; infer_instance
/-- Are these an instruction's parts? -/
def codeOk (op d a b c n : Int) : Prop := (0 ≤ op ∧ op ≤ 35 ∧ -2147483648 ≤ n ∧ n < 2147483648) ∧ gd d ∧ gd a ∧ gd b ∧ gd c
instance (op d a b c n : Int) : Decidable (codeOk op d a b c n) := by unfold codeOk; infer_instance
def codeW (op d a b c n : Int) : Int := op * 72057594037927936 + d * 4503599627370496 + a * 281474976710656 + b * 17592186044416 + c * 1099511627776 + n % 4294967296
def r4 (d a b c : Int) : Nat → Int
  | 0 => d
  | 1 => a
  | 2 => b
  | _ => c
def codeV (op d a b c n : Int) : Value := if codeOk op d a b c n then .tuple #[.int .u64 (codeW op d a b c n), .nilIface] else .tuple #[.int .u64 0, .iface 62 (.int .i64 2)]
/-- Two numbers whose bits do not meet. -/
theorem or_sum (x y k : Nat) (hx : x % 2 ^ k = 0) (hy : y < 2 ^ k) : x ||| y = x + y := by
  have h1 := Nat.div_add_mod x (2 ^ k)
  rw [hx, Nat.add_zero] at h1
  rw [← h1, Nat.mul_comm, ← Nat.shiftLeft_eq, Nat.shiftLeft_add_eq_or_of_lt hy]
theorem or_u64 (x y k : Nat) (hx : x % 2 ^ k = 0) (hy : y < 2 ^ k) (hxb : x < 18446744073709551616) (hyb : y < 18446744073709551616) : bits .or .u64 (x : Int) (y : Int) = ((x + y : Nat) : Int) := by
  rw [u64_or_nat x y hxb hyb, or_sum x y k hx hy]
/-- The parts, laid into one word. -/
theorem code_word (op d a b c n : Int) (h : codeOk op d a b c n) :
    bits .or .u64 (bits .or .u64 (bits .or .u64 (bits .or .u64 (bits .or .u64 (op * 72057594037927936) (d * 4503599627370496)) (a * 281474976710656)) (b * 17592186044416)) (c * 1099511627776)) (n % 4294967296) = codeW op d a b c n := by
  obtain ⟨⟨h1, h2, h3, h4⟩, ⟨d1, d2⟩, ⟨a1, a2⟩, ⟨b1, b2⟩, ⟨c1, c2⟩⟩ := h
  obtain ⟨o, rfl⟩ := Int.eq_ofNat_of_zero_le h1
  obtain ⟨d, rfl⟩ := Int.eq_ofNat_of_zero_le d1
  obtain ⟨a, rfl⟩ := Int.eq_ofNat_of_zero_le a1
  obtain ⟨b, rfl⟩ := Int.eq_ofNat_of_zero_le b1
  obtain ⟨c, rfl⟩ := Int.eq_ofNat_of_zero_le c1
  obtain ⟨m, hm⟩ := Int.eq_ofNat_of_zero_le (show 0 ≤ n % 4294967296 by omega)
  unfold codeW
  rw [hm]
  have hmb : m < 4294967296 := by omega
  have e1 : ((o : Nat) : Int) * 72057594037927936 = ((o * 72057594037927936 : Nat) : Int) := by omega
  have e2 : ((d : Nat) : Int) * 4503599627370496 = ((d * 4503599627370496 : Nat) : Int) := by omega
  have e3 : ((a : Nat) : Int) * 281474976710656 = ((a * 281474976710656 : Nat) : Int) := by omega
  have e4 : ((b : Nat) : Int) * 17592186044416 = ((b * 17592186044416 : Nat) : Int) := by omega
  have e5 : ((c : Nat) : Int) * 1099511627776 = ((c * 1099511627776 : Nat) : Int) := by omega
  rw [e1, e2, e3, e4, e5]
  rw [or_u64 _ _ 56 (by omega) (by omega) (by omega) (by omega), or_u64 _ _ 52 (by omega) (by omega) (by omega) (by omega), or_u64 _ _ 48 (by omega) (by omega) (by omega) (by omega), or_u64 _ _ 44 (by omega) (by omega) (by omega) (by omega), or_u64 _ _ 40 (by omega) (by omega) (by omega) (by omega)]
  omega
theorem wrap_part (x m : Int) (h0 : 0 ≤ x ∧ x ≤ 35) (h1 : 0 ≤ x * m ∧ x * m < 18446744073709551616) : IntKind.u64.wrap (IntKind.u64.wrap x * m) = x * m := by
  have e1 : IntKind.u64.wrap x = x := IntWalk.u64_in _ (by omega)
  rw [e1]
  exact IntWalk.u64_in _ (by omega)
theorem ix0 (d a b c : Int) (w : World) : (Instr.index 150 (.agg #[.int .i64 d, .int .i64 a, .int .i64 b, .int .i64 c]) (.int .i64 (0 : Nat))).run Tryd.prog w = .ok (.int .i64 d) w := by kernel_rfl
theorem ix1 (d a b c : Int) (w : World) : (Instr.index 150 (.agg #[.int .i64 d, .int .i64 a, .int .i64 b, .int .i64 c]) (.int .i64 (1 : Nat))).run Tryd.prog w = .ok (.int .i64 a) w := by kernel_rfl
theorem ix2 (d a b c : Int) (w : World) : (Instr.index 150 (.agg #[.int .i64 d, .int .i64 a, .int .i64 b, .int .i64 c]) (.int .i64 (2 : Nat))).run Tryd.prog w = .ok (.int .i64 b) w := by kernel_rfl
theorem ix3 (d a b c : Int) (w : World) : (Instr.index 150 (.agg #[.int .i64 d, .int .i64 a, .int .i64 b, .int .i64 c]) (.int .i64 (3 : Nat))).run Tryd.prog w = .ok (.int .i64 c) w := by kernel_rfl
set_option maxHeartbeats 1000000 in
set_option maxRecDepth 100000 in
theorem code_walk (w : World) (op d a b c n : Int) :
    Calls Tryd.prog 42 #[.int .i64 op, .int .i64 d, .int .i64 a, .int .i64 b, .int .i64 c, .int .i64 n] w fun e w' => e = .returned (codeV op d a b c n) ∧ w = w' := by
  have HV : Hid (codeV op d a b c n = if codeOk op d a b c n then .tuple #[.int .u64 (codeW op d a b c n), .nilIface] else .tuple #[.int .u64 0, .iface 62 (.int .i64 2)]) := Lib.hid rfl
  by_cases h1 : 0 ≤ op ∧ op ≤ 35 ∧ -2147483648 ≤ n ∧ n < 2147483648
  · have t1 : decide (op < 0) = false := by simp; omega
    have t2 : decide (35 < op) = false := by simp; omega
    have t3 : decide (n < -2147483648) = false := by simp; omega
    have t4 : decide (2147483648 ≤ n) = false := by simp; omega
    have H1 := Lib.hid h1
    clear h1
    go_enter Tryd.func42, Tryd.ntmps42
    go_upto_region 4 with (fail)
    clear t1 t2 t3 t4
    go_loopw [36] (fun t y => ∃ k : Nat, k ≤ 4 ∧ t = .int .i64 k ∧ Hid ((∀ i, i < k → gd (r4 d a b c i)) ∧ w = y)) (fun t _ => 4 - (intOf t).toNat)
    case atStart => exact ⟨0, by decide, rfl, Lib.hid ⟨fun i hi => by omega, rfl⟩⟩
    case round =>
      obtain ⟨k, hk, rfl, hp⟩ := hrel
      have HP := Lib.hid hp.out.1
      obtain rfl := hp.out.2
      clear hp
      by_cases h4 : k = 4
      · subst h4
        have hok : codeOk op d a b c n := ⟨H1.out, HP.out 0 (by decide), HP.out 1 (by decide), HP.out 2 (by decide), HP.out 3 (by decide)⟩
        have HC := Lib.hid (code_word op d a b c n hok)
        have HE := Lib.hid hok
        clear hok hk
        go_wp2_with (fail)
        refine bodyPost_ret (v := codeV op d a b c n) ?_ rfl ⟨rfl, rfl⟩
        rw [HV.out, if_pos HE.out, ← HC.out]
        have hh := HE.out
        unfold codeOk gd at hh
        have w0 := wrap_part op 72057594037927936 (by omega) (by omega)
        have w1 := wrap_part d 4503599627370496 (by omega) (by omega)
        have w2 := wrap_part a 281474976710656 (by omega) (by omega)
        have w3 := wrap_part b 17592186044416 (by omega) (by omega)
        have w4 := wrap_part c 1099511627776 (by omega) (by omega)
        rw [w0, w1, w2, w3, w4]
        simp [results, Tryd.results42, go_sem]
      · have hk3 : k = 0 ∨ k = 1 ∨ k = 2 ∨ k = 3 := by omega
        clear h4 hk
        rcases hk3 with rfl | rfl | rfl | rfl
        · have HIX := Lib.hid (ix0 d a b c w)
          by_cases hg : gd d
          · have t5 : decide (d < 0) = false := by have := hg.1; simp; omega
            have t6 : decide (15 < d) = false := by have := hg.2; simp; omega
            have HG := Lib.hid hg
            clear hg
            go_wp2_with ((with_reducible refine wpList_indexE (P := Tryd.prog) (w := w) ?_ 150 (.tmp 35) (.tmp 36) ?_ (.agg #[.int .i64 d, .int .i64 a, .int .i64 b, .int .i64 c]) (.int .i64 (0 : Nat)) (.int .i64 d) ?_ ?_ HIX.out ?_); (· exact rfl); (· exact rfl); (· exact rfl); (· exact rfl))
            go_roundw
            case rel => exact ⟨1, by decide, rfl, Lib.hid ⟨fun i hi => by
              by_cases e : i = 0
              · subst e; exact HG.out
              · exact HP.out i (by omega), trivial⟩⟩
            case measure => simp [intOf]
          · have hno : ¬ codeOk op d a b c n := fun h => hg h.2.1
            have HNO := Lib.hid hno
            by_cases h0 : d < 0
            · have t5 : decide (d < 0) = true := by simpa using h0
              clear hg hno h0
              go_wp2_with ((with_reducible refine wpList_indexE (P := Tryd.prog) (w := w) ?_ 150 (.tmp 35) (.tmp 36) ?_ (.agg #[.int .i64 d, .int .i64 a, .int .i64 b, .int .i64 c]) (.int .i64 (0 : Nat)) (.int .i64 d) ?_ ?_ HIX.out ?_); (· exact rfl); (· exact rfl); (· exact rfl); (· exact rfl))
              refine bodyPost_ret (v := codeV op d a b c n) ?_ rfl ⟨rfl, rfl⟩
              rw [HV.out, if_neg HNO.out]
              simp [results, Tryd.results42, go_sem]
            · have t5 : decide (d < 0) = false := by simpa using h0
              have t6 : decide (15 < d) = true := by simp; unfold gd at hg; omega
              clear hg hno h0
              go_wp2_with ((with_reducible refine wpList_indexE (P := Tryd.prog) (w := w) ?_ 150 (.tmp 35) (.tmp 36) ?_ (.agg #[.int .i64 d, .int .i64 a, .int .i64 b, .int .i64 c]) (.int .i64 (0 : Nat)) (.int .i64 d) ?_ ?_ HIX.out ?_); (· exact rfl); (· exact rfl); (· exact rfl); (· exact rfl))
              refine bodyPost_ret (v := codeV op d a b c n) ?_ rfl ⟨rfl, rfl⟩
              rw [HV.out, if_neg HNO.out]
              simp [results, Tryd.results42, go_sem]
        · have HIX := Lib.hid (ix1 d a b c w)
          by_cases hg : gd a
          · have t5 : decide (a < 0) = false := by have := hg.1; simp; omega
            have t6 : decide (15 < a) = false := by have := hg.2; simp; omega
            have HG := Lib.hid hg
            clear hg
            go_wp2_with ((with_reducible refine wpList_indexE (P := Tryd.prog) (w := w) ?_ 150 (.tmp 35) (.tmp 36) ?_ (.agg #[.int .i64 d, .int .i64 a, .int .i64 b, .int .i64 c]) (.int .i64 (1 : Nat)) (.int .i64 a) ?_ ?_ HIX.out ?_); (· exact rfl); (· exact rfl); (· exact rfl); (· exact rfl))
            go_roundw
            case rel => exact ⟨2, by decide, rfl, Lib.hid ⟨fun i hi => by
              by_cases e : i = 1
              · subst e; exact HG.out
              · exact HP.out i (by omega), trivial⟩⟩
            case measure => simp [intOf]
          · have hno : ¬ codeOk op d a b c n := fun h => hg h.2.2.1
            have HNO := Lib.hid hno
            by_cases h0 : a < 0
            · have t5 : decide (a < 0) = true := by simpa using h0
              clear hg hno h0
              go_wp2_with ((with_reducible refine wpList_indexE (P := Tryd.prog) (w := w) ?_ 150 (.tmp 35) (.tmp 36) ?_ (.agg #[.int .i64 d, .int .i64 a, .int .i64 b, .int .i64 c]) (.int .i64 (1 : Nat)) (.int .i64 a) ?_ ?_ HIX.out ?_); (· exact rfl); (· exact rfl); (· exact rfl); (· exact rfl))
              refine bodyPost_ret (v := codeV op d a b c n) ?_ rfl ⟨rfl, rfl⟩
              rw [HV.out, if_neg HNO.out]
              simp [results, Tryd.results42, go_sem]
            · have t5 : decide (a < 0) = false := by simpa using h0
              have t6 : decide (15 < a) = true := by simp; unfold gd at hg; omega
              clear hg hno h0
              go_wp2_with ((with_reducible refine wpList_indexE (P := Tryd.prog) (w := w) ?_ 150 (.tmp 35) (.tmp 36) ?_ (.agg #[.int .i64 d, .int .i64 a, .int .i64 b, .int .i64 c]) (.int .i64 (1 : Nat)) (.int .i64 a) ?_ ?_ HIX.out ?_); (· exact rfl); (· exact rfl); (· exact rfl); (· exact rfl))
              refine bodyPost_ret (v := codeV op d a b c n) ?_ rfl ⟨rfl, rfl⟩
              rw [HV.out, if_neg HNO.out]
              simp [results, Tryd.results42, go_sem]
        · have HIX := Lib.hid (ix2 d a b c w)
          by_cases hg : gd b
          · have t5 : decide (b < 0) = false := by have := hg.1; simp; omega
            have t6 : decide (15 < b) = false := by have := hg.2; simp; omega
            have HG := Lib.hid hg
            clear hg
            go_wp2_with ((with_reducible refine wpList_indexE (P := Tryd.prog) (w := w) ?_ 150 (.tmp 35) (.tmp 36) ?_ (.agg #[.int .i64 d, .int .i64 a, .int .i64 b, .int .i64 c]) (.int .i64 (2 : Nat)) (.int .i64 b) ?_ ?_ HIX.out ?_); (· exact rfl); (· exact rfl); (· exact rfl); (· exact rfl))
            go_roundw
            case rel => exact ⟨3, by decide, rfl, Lib.hid ⟨fun i hi => by
              by_cases e : i = 2
              · subst e; exact HG.out
              · exact HP.out i (by omega), trivial⟩⟩
            case measure => simp [intOf]
          · have hno : ¬ codeOk op d a b c n := fun h => hg h.2.2.2.1
            have HNO := Lib.hid hno
            by_cases h0 : b < 0
            · have t5 : decide (b < 0) = true := by simpa using h0
              clear hg hno h0
              go_wp2_with ((with_reducible refine wpList_indexE (P := Tryd.prog) (w := w) ?_ 150 (.tmp 35) (.tmp 36) ?_ (.agg #[.int .i64 d, .int .i64 a, .int .i64 b, .int .i64 c]) (.int .i64 (2 : Nat)) (.int .i64 b) ?_ ?_ HIX.out ?_); (· exact rfl); (· exact rfl); (· exact rfl); (· exact rfl))
              refine bodyPost_ret (v := codeV op d a b c n) ?_ rfl ⟨rfl, rfl⟩
              rw [HV.out, if_neg HNO.out]
              simp [results, Tryd.results42, go_sem]
            · have t5 : decide (b < 0) = false := by simpa using h0
              have t6 : decide (15 < b) = true := by simp; unfold gd at hg; omega
              clear hg hno h0
              go_wp2_with ((with_reducible refine wpList_indexE (P := Tryd.prog) (w := w) ?_ 150 (.tmp 35) (.tmp 36) ?_ (.agg #[.int .i64 d, .int .i64 a, .int .i64 b, .int .i64 c]) (.int .i64 (2 : Nat)) (.int .i64 b) ?_ ?_ HIX.out ?_); (· exact rfl); (· exact rfl); (· exact rfl); (· exact rfl))
              refine bodyPost_ret (v := codeV op d a b c n) ?_ rfl ⟨rfl, rfl⟩
              rw [HV.out, if_neg HNO.out]
              simp [results, Tryd.results42, go_sem]
        · have HIX := Lib.hid (ix3 d a b c w)
          by_cases hg : gd c
          · have t5 : decide (c < 0) = false := by have := hg.1; simp; omega
            have t6 : decide (15 < c) = false := by have := hg.2; simp; omega
            have HG := Lib.hid hg
            clear hg
            go_wp2_with ((with_reducible refine wpList_indexE (P := Tryd.prog) (w := w) ?_ 150 (.tmp 35) (.tmp 36) ?_ (.agg #[.int .i64 d, .int .i64 a, .int .i64 b, .int .i64 c]) (.int .i64 (3 : Nat)) (.int .i64 c) ?_ ?_ HIX.out ?_); (· exact rfl); (· exact rfl); (· exact rfl); (· exact rfl))
            go_roundw
            case rel => exact ⟨4, by decide, rfl, Lib.hid ⟨fun i hi => by
              by_cases e : i = 3
              · subst e; exact HG.out
              · exact HP.out i (by omega), trivial⟩⟩
            case measure => simp [intOf]
          · have hno : ¬ codeOk op d a b c n := fun h => hg h.2.2.2.2
            have HNO := Lib.hid hno
            by_cases h0 : c < 0
            · have t5 : decide (c < 0) = true := by simpa using h0
              clear hg hno h0
              go_wp2_with ((with_reducible refine wpList_indexE (P := Tryd.prog) (w := w) ?_ 150 (.tmp 35) (.tmp 36) ?_ (.agg #[.int .i64 d, .int .i64 a, .int .i64 b, .int .i64 c]) (.int .i64 (3 : Nat)) (.int .i64 c) ?_ ?_ HIX.out ?_); (· exact rfl); (· exact rfl); (· exact rfl); (· exact rfl))
              refine bodyPost_ret (v := codeV op d a b c n) ?_ rfl ⟨rfl, rfl⟩
              rw [HV.out, if_neg HNO.out]
              simp [results, Tryd.results42, go_sem]
            · have t5 : decide (c < 0) = false := by simpa using h0
              have t6 : decide (15 < c) = true := by simp; unfold gd at hg; omega
              clear hg hno h0
              go_wp2_with ((with_reducible refine wpList_indexE (P := Tryd.prog) (w := w) ?_ 150 (.tmp 35) (.tmp 36) ?_ (.agg #[.int .i64 d, .int .i64 a, .int .i64 b, .int .i64 c]) (.int .i64 (3 : Nat)) (.int .i64 c) ?_ ?_ HIX.out ?_); (· exact rfl); (· exact rfl); (· exact rfl); (· exact rfl))
              refine bodyPost_ret (v := codeV op d a b c n) ?_ rfl ⟨rfl, rfl⟩
              rw [HV.out, if_neg HNO.out]
              simp [results, Tryd.results42, go_sem]
  · have hno : ¬ codeOk op d a b c n := fun h => h1 h.1
    have HNO := Lib.hid hno
    have h5 : op < 0 ∨ (0 ≤ op ∧ 35 < op) ∨ (0 ≤ op ∧ op ≤ 35 ∧ n < -2147483648) ∨ (0 ≤ op ∧ op ≤ 35 ∧ -2147483648 ≤ n ∧ 2147483648 ≤ n) := by omega
    clear h1 hno
    rcases h5 with h5 | h5 | h5 | h5
    · have t1 : decide (op < 0) = true := by simpa using h5
      clear h5
      go_enter Tryd.func42, Tryd.ntmps42
      go_wp2_with (fail)
      refine bodyPost_ret (v := codeV op d a b c n) ?_ rfl ⟨rfl, rfl⟩
      rw [HV.out, if_neg HNO.out]
      simp [results, Tryd.results42, go_sem]
    · have t1 : decide (op < 0) = false := by simp; omega
      have t2 : decide (35 < op) = true := by simp; omega
      clear h5
      go_enter Tryd.func42, Tryd.ntmps42
      go_wp2_with (fail)
      refine bodyPost_ret (v := codeV op d a b c n) ?_ rfl ⟨rfl, rfl⟩
      rw [HV.out, if_neg HNO.out]
      simp [results, Tryd.results42, go_sem]
    · have t1 : decide (op < 0) = false := by simp; omega
      have t2 : decide (35 < op) = false := by simp; omega
      have t3 : decide (n < -2147483648) = true := by simp; omega
      clear h5
      go_enter Tryd.func42, Tryd.ntmps42
      go_wp2_with (fail)
      refine bodyPost_ret (v := codeV op d a b c n) ?_ rfl ⟨rfl, rfl⟩
      rw [HV.out, if_neg HNO.out]
      simp [results, Tryd.results42, go_sem]
    · have t1 : decide (op < 0) = false := by simp; omega
      have t2 : decide (35 < op) = false := by simp; omega
      have t3 : decide (n < -2147483648) = false := by simp; omega
      have t4 : decide (2147483648 ≤ n) = true := by simp; omega
      clear h5
      go_enter Tryd.func42, Tryd.ntmps42
      go_wp2_with (fail)
      refine bodyPost_ret (v := codeV op d a b c n) ?_ rfl ⟨rfl, rfl⟩
      rw [HV.out, if_neg HNO.out]
      simp [results, Tryd.results42, go_sem]
end Vm
end Go.Proofs.YtdmffnjbholkkaaDoor
