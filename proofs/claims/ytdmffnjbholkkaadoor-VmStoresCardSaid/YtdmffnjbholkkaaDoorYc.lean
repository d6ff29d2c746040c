/-
  mootref10.Code. Written by genYc.py. Own work.
-/
import Derived.Test.YtdmffnjbholkkaaDoorYb
namespace Go.Proofs.YtdmffnjbholkkaaDoor
open Go.RowKit
set_option linter.unusedVariables false
set_option linter.unusedSimpArgs false
namespace Vm
def rAcc (op d a b c : Int) : Nat → Int
  | 0 => IntKind.u64.wrap op
  | k + 1 => IntKind.u64.wrap (IntKind.u64.wrap (rAcc op d a b c k * 16) + IntKind.u64.wrap (r4 d a b c k))
def codeR (op d a b c n : Int) : Value := if codeOk op d a b c n then .tuple #[.int .u64 (codeW op d a b c n), .int .i64 0] else .tuple #[.int .u64 0, .int .i64 2]
theorem and_low (n : Int) : bits .and .u64 (IntKind.u64.wrap n) 4294967295 = n % 4294967296 := by
  have e : IntKind.u64.wrap n = n % 18446744073709551616 := by simp [IntKind.wrap, IntKind.bits, IntKind.signed]
  rw [e]
  obtain ⟨m, hm⟩ := Int.eq_ofNat_of_zero_le (show 0 ≤ n % 18446744073709551616 by omega)
  have hb := u64_and_nat m (2 ^ 32 - 1) (by omega) (by omega)
  rw [Nat.and_two_pow_sub_one_eq_mod] at hb
  rw [hm]
  refine Eq.trans hb ?_
  omega
theorem rcode_word (op d a b c n : Int) (h : codeOk op d a b c n) : IntKind.u64.wrap (IntKind.u64.wrap (rAcc op d a b c 4 * 1099511627776) + n % 4294967296) = codeW op d a b c n := by
  unfold codeOk gd at h
  have u := fun z h => IntWalk.u64_in z h
  have e0 : rAcc op d a b c 0 = op := u _ (by omega)
  have e1 : rAcc op d a b c 1 = op * 16 + d := by
    unfold rAcc; rw [e0, u (op * 16) (by omega)]; rw [show r4 d a b c 0 = d from rfl, u d (by omega), u _ (by omega)]
  have e2 : rAcc op d a b c 2 = (op * 16 + d) * 16 + a := by
    unfold rAcc; rw [e1, u ((op * 16 + d) * 16) (by omega)]; rw [show r4 d a b c 1 = a from rfl, u a (by omega), u _ (by omega)]
  have e3 : rAcc op d a b c 3 = ((op * 16 + d) * 16 + a) * 16 + b := by
    unfold rAcc; rw [e2, u (((op * 16 + d) * 16 + a) * 16) (by omega)]; rw [show r4 d a b c 2 = b from rfl, u b (by omega), u _ (by omega)]
  have e4 : rAcc op d a b c 4 = (((op * 16 + d) * 16 + a) * 16 + b) * 16 + c := by
    unfold rAcc; rw [e3, u ((((op * 16 + d) * 16 + a) * 16 + b) * 16) (by omega)]; rw [show r4 d a b c 3 = c from rfl, u c (by omega), u _ (by omega)]
  rw [e4, u (((((op * 16 + d) * 16 + a) * 16 + b) * 16 + c) * 1099511627776) (by omega), u _ (by omega)]
  unfold codeW
  omega
structure Rw (W : World) (q : Nat) (d a b c : Int) (y : World) : Prop where
  k0 : y.cell? ⟨q, 0, none⟩ = some (.int .i64 d)
  k1 : y.cell? ⟨q, 1, none⟩ = some (.int .i64 a)
  k2 : y.cell? ⟨q, 2, none⟩ = some (.int .i64 b)
  k3 : y.cell? ⟨q, 3, none⟩ = some (.int .i64 c)
  below : Below W.heap.size W y
set_option maxHeartbeats 1000000 in
set_option maxRecDepth 100000 in
theorem rcode_walk (w : World) (op d a b c n : Int) :
    Calls Tryd.prog 43 #[.int .i64 op, .int .i64 d, .int .i64 a, .int .i64 b, .int .i64 c, .int .i64 n] w fun e w' => e = .returned (codeR op d a b c n) ∧ Below w.heap.size w w' := by
  have HV : Hid (codeR op d a b c n = if codeOk op d a b c n then .tuple #[.int .u64 (codeW op d a b c n), .int .i64 0] else .tuple #[.int .u64 0, .int .i64 2]) := Lib.hid rfl
  have HR : Hid (Rw w w.heap.size d a b c (w.alloc (.cells #[.int .i64 d, .int .i64 a, .int .i64 b, .int .i64 c] 3))) := Lib.hid ⟨by simp, by simp, by simp, by simp, (Below.refl _ _).alloc (Nat.le_refl _) _⟩
  go_enter Tryd.func43, Tryd.ntmps43
  go_upto_region 4 with (fail)
  generalize w.alloc (.cells #[.int .i64 d, .int .i64 a, .int .i64 b, .int .i64 c] 3) = y0 at *
  generalize w.heap.size = q at *
  go_loopw [16, 14] (fun t u y => ∃ k : Nat, k ≤ 4 ∧ t = .int .i64 k ∧ u = .int .u64 (rAcc op d a b c k) ∧ Hid ((∀ i, i < k → gd (r4 d a b c i)) ∧ y0 = y)) (fun t u _ => 4 - (intOf t).toNat)
  case atStart => exact ⟨0, by decide, rfl, rfl, Lib.hid ⟨fun i hi => by omega, rfl⟩⟩
  case round =>
    obtain ⟨k, hk, rfl, rfl, hp⟩ := hrel
    have HP := Lib.hid hp.out.1
    obtain rfl := hp.out.2
    clear hp
    by_cases h4 : k = 4
    · subst h4
      have hrg : gd d ∧ gd a ∧ gd b ∧ gd c := ⟨HP.out 0 (by decide), HP.out 1 (by decide), HP.out 2 (by decide), HP.out 3 (by decide)⟩
      have HG := Lib.hid hrg
      clear hrg hk
      by_cases h1 : 0 ≤ op ∧ op ≤ 35 ∧ -2147483648 ≤ n ∧ n < 2147483648
      · have t1 : decide (op < 0) = false := by simp; omega
        have t2 : decide (35 < op) = false := by simp; omega
        have t3 : decide (n < -2147483648) = false := by simp; omega
        have t4 : decide (2147483648 ≤ n) = false := by simp; omega
        have HE : Hid (codeOk op d a b c n) := Lib.hid ⟨h1, HG.out⟩
        have HC := Lib.hid (rcode_word op d a b c n HE.out)
        clear h1
        generalize rAcc op d a b c 4 = A at *
        go_wp2_with (fail)
        refine bodyPost_ret (v := codeR op d a b c n) ?_ rfl ⟨rfl, HR.out.below⟩
        rw [HV.out, if_pos HE.out, ← HC.out, ← and_low n]
        simp [results, Tryd.results43, go_sem]
      · have HNO : Hid (¬ codeOk op d a b c n) := Lib.hid (fun h => h1 h.1)
        have h5 : op < 0 ∨ (0 ≤ op ∧ 35 < op) ∨ (0 ≤ op ∧ op ≤ 35 ∧ n < -2147483648) ∨ (0 ≤ op ∧ op ≤ 35 ∧ -2147483648 ≤ n ∧ 2147483648 ≤ n) := by omega
        clear h1
        generalize rAcc op d a b c 4 = A at *
        rcases h5 with h5 | h5 | h5 | h5
        · skip
          have t0 : decide (op < 0) = true := by simp; omega
          clear h5
          go_wp2_with (fail)
          refine bodyPost_ret (v := codeR op d a b c n) ?_ rfl ⟨rfl, HR.out.below⟩
          rw [HV.out, if_neg HNO.out]
          simp [results, Tryd.results43, go_sem]
        · skip
          have t0 : decide (op < 0) = false := by simp; omega
          have t1 : decide (35 < op) = true := by simp; omega
          clear h5
          go_wp2_with (fail)
          refine bodyPost_ret (v := codeR op d a b c n) ?_ rfl ⟨rfl, HR.out.below⟩
          rw [HV.out, if_neg HNO.out]
          simp [results, Tryd.results43, go_sem]
        · skip
          have t0 : decide (op < 0) = false := by simp; omega
          have t1 : decide (35 < op) = false := by simp; omega
          have t2 : decide (n < -2147483648) = true := by simp; omega
          clear h5
          go_wp2_with (fail)
          refine bodyPost_ret (v := codeR op d a b c n) ?_ rfl ⟨rfl, HR.out.below⟩
          rw [HV.out, if_neg HNO.out]
          simp [results, Tryd.results43, go_sem]
        · skip
          have t0 : decide (op < 0) = false := by simp; omega
          have t1 : decide (35 < op) = false := by simp; omega
          have t2 : decide (n < -2147483648) = false := by simp; omega
          have t3 : decide (2147483648 ≤ n) = true := by simp; omega
          clear h5
          go_wp2_with (fail)
          refine bodyPost_ret (v := codeR op d a b c n) ?_ rfl ⟨rfl, HR.out.below⟩
          rw [HV.out, if_neg HNO.out]
          simp [results, Tryd.results43, go_sem]
    · have hk3 : k = 0 ∨ k = 1 ∨ k = 2 ∨ k = 3 := by omega
      clear h4 hk
      have k0 := HR.out.k0
      have k1 := HR.out.k1
      have k2 := HR.out.k2
      have k3 := HR.out.k3
      rcases hk3 with rfl | rfl | rfl | rfl
      · by_cases hg : gd d
        · have t5 : decide (d < 0) = false := by have := hg.1; simp; omega
          have t6 : decide (15 < d) = false := by have := hg.2; simp; omega
          have HG := Lib.hid hg
          clear hg
          have HA : Hid (rAcc op d a b c 1 = IntKind.u64.wrap (IntKind.u64.wrap (rAcc op d a b c 0 * 16) + IntKind.u64.wrap d)) := Lib.hid rfl
          generalize rAcc op d a b c 0 = A at *
          go_wp2_with (fail)
          go_roundw
          case rel => exact ⟨1, by decide, rfl, by rw [HA.out], Lib.hid ⟨fun i hi => by
            by_cases e : i = 0
            · subst e; exact HG.out
            · exact HP.out i (by omega), trivial⟩⟩
          case measure => simp [intOf]
        · have hno : ¬ codeOk op d a b c n := fun h => hg h.2.1
          have HNO := Lib.hid hno
          by_cases h0 : d < 0
          · have t5 : decide (d < 0) = true := by simpa using h0
            clear hg hno h0
            go_wp2_with (fail)
            refine bodyPost_ret (v := codeR op d a b c n) ?_ rfl ⟨rfl, HR.out.below⟩
            rw [HV.out, if_neg HNO.out]
            simp [results, Tryd.results43, go_sem]
          · have t5 : decide (d < 0) = false := by simpa using h0
            have t6 : decide (15 < d) = true := by simp; unfold gd at hg; omega
            clear hg hno h0
            go_wp2_with (fail)
            refine bodyPost_ret (v := codeR op d a b c n) ?_ rfl ⟨rfl, HR.out.below⟩
            rw [HV.out, if_neg HNO.out]
            simp [results, Tryd.results43, go_sem]
      · by_cases hg : gd a
        · have t5 : decide (a < 0) = false := by have := hg.1; simp; omega
          have t6 : decide (15 < a) = false := by have := hg.2; simp; omega
          have HG := Lib.hid hg
          clear hg
          have HA : Hid (rAcc op d a b c 2 = IntKind.u64.wrap (IntKind.u64.wrap (rAcc op d a b c 1 * 16) + IntKind.u64.wrap a)) := Lib.hid rfl
          generalize rAcc op d a b c 1 = A at *
          go_wp2_with (fail)
          go_roundw
          case rel => exact ⟨2, by decide, rfl, by rw [HA.out], Lib.hid ⟨fun i hi => by
            by_cases e : i = 1
            · subst e; exact HG.out
            · exact HP.out i (by omega), trivial⟩⟩
          case measure => simp [intOf]
        · have hno : ¬ codeOk op d a b c n := fun h => hg h.2.2.1
          have HNO := Lib.hid hno
          by_cases h0 : a < 0
          · have t5 : decide (a < 0) = true := by simpa using h0
            clear hg hno h0
            go_wp2_with (fail)
            refine bodyPost_ret (v := codeR op d a b c n) ?_ rfl ⟨rfl, HR.out.below⟩
            rw [HV.out, if_neg HNO.out]
            simp [results, Tryd.results43, go_sem]
          · have t5 : decide (a < 0) = false := by simpa using h0
            have t6 : decide (15 < a) = true := by simp; unfold gd at hg; omega
            clear hg hno h0
            go_wp2_with (fail)
            refine bodyPost_ret (v := codeR op d a b c n) ?_ rfl ⟨rfl, HR.out.below⟩
            rw [HV.out, if_neg HNO.out]
            simp [results, Tryd.results43, go_sem]
      · by_cases hg : gd b
        · have t5 : decide (b < 0) = false := by have := hg.1; simp; omega
          have t6 : decide (15 < b) = false := by have := hg.2; simp; omega
          have HG := Lib.hid hg
          clear hg
          have HA : Hid (rAcc op d a b c 3 = IntKind.u64.wrap (IntKind.u64.wrap (rAcc op d a b c 2 * 16) + IntKind.u64.wrap b)) := Lib.hid rfl
          generalize rAcc op d a b c 2 = A at *
          go_wp2_with (fail)
          go_roundw
          case rel => exact ⟨3, by decide, rfl, by rw [HA.out], Lib.hid ⟨fun i hi => by
            by_cases e : i = 2
            · subst e; exact HG.out
            · exact HP.out i (by omega), trivial⟩⟩
          case measure => simp [intOf]
        · have hno : ¬ codeOk op d a b c n := fun h => hg h.2.2.2.1
          have HNO := Lib.hid hno
          by_cases h0 : b < 0
          · have t5 : decide (b < 0) = true := by simpa using h0
            clear hg hno h0
            go_wp2_with (fail)
            refine bodyPost_ret (v := codeR op d a b c n) ?_ rfl ⟨rfl, HR.out.below⟩
            rw [HV.out, if_neg HNO.out]
            simp [results, Tryd.results43, go_sem]
          · have t5 : decide (b < 0) = false := by simpa using h0
            have t6 : decide (15 < b) = true := by simp; unfold gd at hg; omega
            clear hg hno h0
            go_wp2_with (fail)
            refine bodyPost_ret (v := codeR op d a b c n) ?_ rfl ⟨rfl, HR.out.below⟩
            rw [HV.out, if_neg HNO.out]
            simp [results, Tryd.results43, go_sem]
      · by_cases hg : gd c
        · have t5 : decide (c < 0) = false := by have := hg.1; simp; omega
          have t6 : decide (15 < c) = false := by have := hg.2; simp; omega
          have HG := Lib.hid hg
          clear hg
          have HA : Hid (rAcc op d a b c 4 = IntKind.u64.wrap (IntKind.u64.wrap (rAcc op d a b c 3 * 16) + IntKind.u64.wrap c)) := Lib.hid rfl
          generalize rAcc op d a b c 3 = A at *
          go_wp2_with (fail)
          go_roundw
          case rel => exact ⟨4, by decide, rfl, by rw [HA.out], Lib.hid ⟨fun i hi => by
            by_cases e : i = 3
            · subst e; exact HG.out
            · exact HP.out i (by omega), trivial⟩⟩
          case measure => simp [intOf]
        · have hno : ¬ codeOk op d a b c n := fun h => hg h.2.2.2.2
          have HNO := Lib.hid hno
          by_cases h0 : c < 0
          · have t5 : decide (c < 0) = true := by simpa using h0
            clear hg hno h0
            go_wp2_with (fail)
            refine bodyPost_ret (v := codeR op d a b c n) ?_ rfl ⟨rfl, HR.out.below⟩
            rw [HV.out, if_neg HNO.out]
            simp [results, Tryd.results43, go_sem]
          · have t5 : decide (c < 0) = false := by simpa using h0
            have t6 : decide (15 < c) = true := by simp; unfold gd at hg; omega
            clear hg hno h0
            go_wp2_with (fail)
            refine bodyPost_ret (v := codeR op d a b c n) ?_ rfl ⟨rfl, HR.out.below⟩
            rw [HV.out, if_neg HNO.out]
            simp [results, Tryd.results43, go_sem]
end Vm
end Go.Proofs.YtdmffnjbholkkaaDoor
