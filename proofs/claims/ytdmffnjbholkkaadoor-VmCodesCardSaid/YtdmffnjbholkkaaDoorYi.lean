/-
  VmCodes. Written by genYi.py. Own work.
-/
import Derived.Test.YtdmffnjbholkkaaDoorYh
import Derived.Test.YtdmffnjbholkkaaDoorWhy
namespace Go.Proofs.YtdmffnjbholkkaaDoor
open Go.RowKit
set_option linter.unusedVariables false
set_option linter.unusedSimpArgs false
namespace Vm
open Kc
theorem number_nil (w : World) : Calls Tryd.prog 46 #[.nilIface] w fun e w' => e = .returned (.int .i64 0) ∧ Below w.heap.size w w' := by
  have HC := Lib.hid (why_nil w)
  go_enter Tryd.func46, Tryd.ntmps46
  go_wp2_with (go_at_call 49; (with_reducible refine HC.out.mono ?_); rintro e y ⟨he, hy⟩; obtain rfl : e = _ := he; subst hy)
  exact bodyPost_ret (v := .int .i64 0) (by simp [results, Tryd.results46, go_sem]) rfl ⟨rfl, Below.refl _ _⟩
theorem number_num (k : Int) (w : World) (hg : w.cell? ⟨0, 0, none⟩ = some (.iface 173 (.agg #[.pointer (some ⟨4, 41, none⟩)]))) : Calls Tryd.prog 46 #[.iface 62 (.int .i64 k)] w fun e w' => e = .returned (.int .i64 k) ∧ Below w.heap.size w w' := by
  have HC := Lib.hid (why_num k w hg)
  clear hg
  go_enter Tryd.func46, Tryd.ntmps46
  go_wp2_with (go_at_call 49; (with_reducible refine HC.out.mono ?_); rintro e y ⟨he, hy⟩; obtain rfl : e = _ := he; have HB := Lib.hid hy; clear hy)
  exact bodyPost_ret (v := .int .i64 k) (by simp [results, Tryd.results46, go_sem]) rfl ⟨rfl, HB.out⟩
theorem lowB_le {w : World} (ht : Laid.KTab w) : Wt.lowB ≤ w.heap.size := by
  have := inHeap (ht 0 (by decide))
  unfold Wt.lowB
  omega
/-- The parts of an instruction's word are the instruction's. -/
theorem parts_code (op d a b c n : Int) (h : codeOk op d a b c n) : ∃ x : Nat, (x : Int) = codeW op d a b c n ∧ x < 18446744073709551616 ∧ pOk x = true ∧ (pOp x : Int) = op ∧ (pD x : Int) = d ∧ (pA x : Int) = a ∧ (pB x : Int) = b ∧ (pC x : Int) = c ∧ pN x = n := by
  unfold codeOk gd at h
  have hw : codeW op d a b c n = op * 72057594037927936 + d * 4503599627370496 + a * 281474976710656 + b * 17592186044416 + c * 1099511627776 + n % 4294967296 := rfl
  obtain ⟨x, hx⟩ := Int.eq_ofNat_of_zero_le (show 0 ≤ codeW op d a b c n by omega)
  rw [hw] at hx
  have e1 : (pOp x : Int) = op := by unfold pOp; omega
  have e2 : (pN0 x : Int) = 0 := by unfold pN0; omega
  refine ⟨x, by omega, by omega, ?_, e1, by unfold pD; omega, by unfold pA; omega, by unfold pB; omega, by unfold pC; omega, by unfold pN; omega⟩
  unfold pOk
  rw [Bool.and_eq_true]
  exact ⟨decide_eq_true (by omega), decide_eq_true (by omega)⟩
set_option maxHeartbeats 4000000 in
set_option maxRecDepth 100000 in
theorem vmCodes_walk (op d a b c n word : Int) (w0 : (Lit.int .i64 op).wf = true) (w1 : (Lit.int .i64 d).wf = true) (w2 : (Lit.int .i64 a).wf = true) (w3 : (Lit.int .i64 b).wf = true) (w4 : (Lit.int .i64 c).wf = true) (w5 : (Lit.int .i64 n).wf = true) (w6 : (Lit.int .u64 word).wf = true) (w : World)
    (hg : w.cell? ⟨0, 0, none⟩ = some (.iface 173 (.agg #[.pointer (some ⟨4, 41, none⟩)]))) (hT : Laid.KTab w) :
    Calls Tryd.prog 12 #[.int .i64 op, .int .i64 d, .int .i64 a, .int .i64 b, .int .i64 c, .int .i64 n, .int .u64 word] w fun e w' => e = .returned (.bool true) ∧ Below w.heap.size w w' := by
  have p0 : 0 ≤ word := (of_decide_eq_true (Bool.and_eq_true_iff.1 w6).1)
  have p1 : word ≤ 18446744073709551615 := (of_decide_eq_true (Bool.and_eq_true_iff.1 w6).2)
  obtain ⟨x, hxw⟩ := Int.eq_ofNat_of_zero_le p0
  subst hxw
  have hx : x < 18446744073709551616 := by omega
  clear p0 p1 w0 w1 w2 w3 w4 w5 w6
  have HG := Lib.hid hg
  have HT := Lib.hid hT
  have HC1 := Lib.hid (code_walk w op d a b c n)
  have HC2 := Lib.hid (rcode_walk w op d a b c n)
  have HX := Lib.hid hx
  have HV : Hid (codeV op d a b c n = if codeOk op d a b c n then .tuple #[.int .u64 (codeW op d a b c n), .nilIface] else .tuple #[.int .u64 0, .iface 62 (.int .i64 2)]) := Lib.hid rfl
  have HR : Hid (codeR op d a b c n = if codeOk op d a b c n then .tuple #[.int .u64 (codeW op d a b c n), .int .i64 0] else .tuple #[.int .u64 0, .int .i64 2]) := Lib.hid rfl
  have HPV : Hid (partsV x = if pOk x = true then .tuple #[.int .i64 (pOp x), .int .i64 (pD x), .int .i64 (pA x), .int .i64 (pB x), .int .i64 (pC x), .int .i64 (pN x), .bool true]
    else .tuple #[.int .i64 0, .int .i64 0, .int .i64 0, .int .i64 0, .int .i64 0, .int .i64 0, .bool false]) := Lib.hid rfl
  clear hx hg hT
  by_cases hc : codeOk op d a b c n
  · by_cases hp : pOk x = true
    · skip
      rw [if_pos hc] at HV HR
      rw [HV.out] at HC1
      rw [HR.out] at HC2
      rw [if_pos hp] at HPV
      have HE := Lib.hid hc
      have HO := Lib.hid hp
      obtain ⟨X, hX, hXl, hXo, e1, e2, e3, e4, e5, e6⟩ := parts_code op d a b c n hc
      have HPX : Hid (partsV X = .tuple #[.int .i64 op, .int .i64 d, .int .i64 a, .int .i64 b, .int .i64 c, .int .i64 n, .bool true]) := Lib.hid (by unfold partsV; rw [if_pos hXo, e1, e2, e3, e4, e5, e6])
      have HXL := Lib.hid hXl
      rw [← hX] at HC1 HC2
      clear hX hXl hXo e1 e2 e3 e4 e5 e6
      clear hc hp
      go_enter Tryd.func12, Tryd.ntmps12
      go_upto_region 3 with (first
        | (go_at_call 42; (with_reducible refine HC1.out.mono ?_); rintro e y ⟨he, hy⟩; obtain rfl : e = _ := he; subst hy)
        | (go_at_call 43; (with_reducible refine HC2.out.mono ?_); rintro e y2 ⟨he, hy⟩; obtain rfl : e = _ := he; have HB2 := Lib.hid hy; clear hy))
      have HC3 := Lib.hid (rparts_walk y2 x HX.out)
      go_upto_region 4 with (go_at_call 44; (with_reducible refine HC3.out.mono ?_); rintro e y3 ⟨q, he, hr, hy⟩; obtain rfl : e = _ := he; have HR5 := Lib.hid hr; have HB3 : Hid (Below w.heap.size w y3) := Lib.hid (bl HB2.out hy); clear hy hr)
      have HC4 := Lib.hid (parts_walk y3 x HX.out)
      rw [HPV.out] at HC4
      go_upto_region 5 with (go_at_call 45; (with_reducible refine HC4.out.mono ?_); rintro e y4 ⟨he, hy⟩; obtain rfl : e = _ := he; have HR6 := Lib.hid (HR5.out.below hy); have HB4 : Hid (Below w.heap.size w y4) := Lib.hid (bl HB3.out hy); clear hy)
      have hT4 := ktab_below HT.out HB4.out
      have HF := Lib.hid (fixed10_walk y4 hT4 (lowB_le hT4))
      have HNU : Hid (nU x = IntKind.u64.wrap (pN x)) := Lib.hid (if_pos HO.out)
      have HOK : Hid (pOk x = true) := Lib.hid (HO.out)
      rw [HNU.out, HOK.out]
      clear hT4 HC1 HC2 HC3 HC4 HB2 HB3 HR5 HV HR HPV
      go_upto_region 7 with (first
        | (go_at_call 35; (with_reducible refine HF.out.mono ?_); rintro e y5 ⟨he, hy⟩; obtain rfl : e = _ := he; have HR7 := Lib.hid (HR6.out.below hy); have HB5 : Hid (Below w.heap.size w y5) := Lib.hid (bl HB4.out hy); have HN := Lib.hid (number_nil y5); clear hy HF)
        | (go_at_call 46; (with_reducible refine HN.out.mono ?_); rintro e y6 ⟨he, hy⟩; obtain rfl : e = _ := he; have hr := HR7.out.below hy; have HB6 : Hid (Below w.heap.size w y6) := Lib.hid (bl HB5.out hy); clear hy HN
           have k0 : y6.cell? ⟨q, 0, none⟩ = some (.int .i64 (pOp x : Int)) := hr.k0.trans (by rw [show p5 x 0 = (pOp x : Int) from if_pos HO.out])
           have k1 : y6.cell? ⟨q, 1, none⟩ = some (.int .i64 (pD x : Int)) := hr.k1.trans (by rw [show p5 x 1 = (pD x : Int) from if_pos HO.out])
           have k2 : y6.cell? ⟨q, 2, none⟩ = some (.int .i64 (pA x : Int)) := hr.k2.trans (by rw [show p5 x 2 = (pA x : Int) from if_pos HO.out])
           have k3 : y6.cell? ⟨q, 3, none⟩ = some (.int .i64 (pB x : Int)) := hr.k3.trans (by rw [show p5 x 3 = (pB x : Int) from if_pos HO.out])
           have k4 : y6.cell? ⟨q, 4, none⟩ = some (.int .i64 (pC x : Int)) := hr.k4.trans (by rw [show p5 x 4 = (pC x : Int) from if_pos HO.out])
           clear hr))
      clear k0 k1 k2 k3 k4 HR7 HR6
      have HC8 := Lib.hid (parts_walk y6 X HXL.out)
      rw [HPX.out] at HC8
      go_wp2_with (go_at_call 45; (with_reducible refine HC8.out.mono ?_); rintro e y8 ⟨he, hy⟩; obtain rfl : e = _ := he; have HB8 : Hid (Below w.heap.size w y8) := Lib.hid (bl HB6.out hy); clear hy)
      exact bodyPost_ret (v := .bool true) (by simp [results, Tryd.results12, go_sem]) rfl ⟨rfl, HB8.out⟩
    · skip
      rw [if_pos hc] at HV HR
      rw [HV.out] at HC1
      rw [HR.out] at HC2
      rw [if_neg hp] at HPV
      have HE := Lib.hid hc
      have HO := Lib.hid hp
      obtain ⟨X, hX, hXl, hXo, e1, e2, e3, e4, e5, e6⟩ := parts_code op d a b c n hc
      have HPX : Hid (partsV X = .tuple #[.int .i64 op, .int .i64 d, .int .i64 a, .int .i64 b, .int .i64 c, .int .i64 n, .bool true]) := Lib.hid (by unfold partsV; rw [if_pos hXo, e1, e2, e3, e4, e5, e6])
      have HXL := Lib.hid hXl
      rw [← hX] at HC1 HC2
      clear hX hXl hXo e1 e2 e3 e4 e5 e6
      clear hc hp
      go_enter Tryd.func12, Tryd.ntmps12
      go_upto_region 3 with (first
        | (go_at_call 42; (with_reducible refine HC1.out.mono ?_); rintro e y ⟨he, hy⟩; obtain rfl : e = _ := he; subst hy)
        | (go_at_call 43; (with_reducible refine HC2.out.mono ?_); rintro e y2 ⟨he, hy⟩; obtain rfl : e = _ := he; have HB2 := Lib.hid hy; clear hy))
      have HC3 := Lib.hid (rparts_walk y2 x HX.out)
      go_upto_region 4 with (go_at_call 44; (with_reducible refine HC3.out.mono ?_); rintro e y3 ⟨q, he, hr, hy⟩; obtain rfl : e = _ := he; have HR5 := Lib.hid hr; have HB3 : Hid (Below w.heap.size w y3) := Lib.hid (bl HB2.out hy); clear hy hr)
      have HC4 := Lib.hid (parts_walk y3 x HX.out)
      rw [HPV.out] at HC4
      go_upto_region 5 with (go_at_call 45; (with_reducible refine HC4.out.mono ?_); rintro e y4 ⟨he, hy⟩; obtain rfl : e = _ := he; have HR6 := Lib.hid (HR5.out.below hy); have HB4 : Hid (Below w.heap.size w y4) := Lib.hid (bl HB3.out hy); clear hy)
      have hT4 := ktab_below HT.out HB4.out
      have HF := Lib.hid (fixed10_walk y4 hT4 (lowB_le hT4))
      have HNU : Hid (nU x = 0) := Lib.hid (if_neg HO.out)
      have HOK : Hid (pOk x = false) := Lib.hid (by simpa using HO.out)
      rw [HNU.out, HOK.out]
      clear hT4 HC1 HC2 HC3 HC4 HB2 HB3 HR5 HV HR HPV
      go_upto_region 7 with (first
        | (go_at_call 35; (with_reducible refine HF.out.mono ?_); rintro e y5 ⟨he, hy⟩; obtain rfl : e = _ := he; have HR7 := Lib.hid (HR6.out.below hy); have HB5 : Hid (Below w.heap.size w y5) := Lib.hid (bl HB4.out hy); have HN := Lib.hid (number_nil y5); clear hy HF)
        | (go_at_call 46; (with_reducible refine HN.out.mono ?_); rintro e y6 ⟨he, hy⟩; obtain rfl : e = _ := he; have hr := HR7.out.below hy; have HB6 : Hid (Below w.heap.size w y6) := Lib.hid (bl HB5.out hy); clear hy HN
           have k0 : y6.cell? ⟨q, 0, none⟩ = some (.int .i64 0) := hr.k0.trans (by rw [show p5 x 0 = 0 from if_neg HO.out])
           have k1 : y6.cell? ⟨q, 1, none⟩ = some (.int .i64 0) := hr.k1.trans (by rw [show p5 x 1 = 0 from if_neg HO.out])
           have k2 : y6.cell? ⟨q, 2, none⟩ = some (.int .i64 0) := hr.k2.trans (by rw [show p5 x 2 = 0 from if_neg HO.out])
           have k3 : y6.cell? ⟨q, 3, none⟩ = some (.int .i64 0) := hr.k3.trans (by rw [show p5 x 3 = 0 from if_neg HO.out])
           have k4 : y6.cell? ⟨q, 4, none⟩ = some (.int .i64 0) := hr.k4.trans (by rw [show p5 x 4 = 0 from if_neg HO.out])
           clear hr))
      clear k0 k1 k2 k3 k4 HR7 HR6
      have HC8 := Lib.hid (parts_walk y6 X HXL.out)
      rw [HPX.out] at HC8
      go_wp2_with (go_at_call 45; (with_reducible refine HC8.out.mono ?_); rintro e y8 ⟨he, hy⟩; obtain rfl : e = _ := he; have HB8 : Hid (Below w.heap.size w y8) := Lib.hid (bl HB6.out hy); clear hy)
      exact bodyPost_ret (v := .bool true) (by simp [results, Tryd.results12, go_sem]) rfl ⟨rfl, HB8.out⟩
  · by_cases hp : pOk x = true
    · skip
      rw [if_neg hc] at HV HR
      rw [HV.out] at HC1
      rw [HR.out] at HC2
      rw [if_pos hp] at HPV
      have HE := Lib.hid hc
      have HO := Lib.hid hp
      clear hc hp
      go_enter Tryd.func12, Tryd.ntmps12
      go_upto_region 3 with (first
        | (go_at_call 42; (with_reducible refine HC1.out.mono ?_); rintro e y ⟨he, hy⟩; obtain rfl : e = _ := he; subst hy)
        | (go_at_call 43; (with_reducible refine HC2.out.mono ?_); rintro e y2 ⟨he, hy⟩; obtain rfl : e = _ := he; have HB2 := Lib.hid hy; clear hy))
      have HC3 := Lib.hid (rparts_walk y2 x HX.out)
      go_upto_region 4 with (go_at_call 44; (with_reducible refine HC3.out.mono ?_); rintro e y3 ⟨q, he, hr, hy⟩; obtain rfl : e = _ := he; have HR5 := Lib.hid hr; have HB3 : Hid (Below w.heap.size w y3) := Lib.hid (bl HB2.out hy); clear hy hr)
      have HC4 := Lib.hid (parts_walk y3 x HX.out)
      rw [HPV.out] at HC4
      go_upto_region 5 with (go_at_call 45; (with_reducible refine HC4.out.mono ?_); rintro e y4 ⟨he, hy⟩; obtain rfl : e = _ := he; have HR6 := Lib.hid (HR5.out.below hy); have HB4 : Hid (Below w.heap.size w y4) := Lib.hid (bl HB3.out hy); clear hy)
      have hT4 := ktab_below HT.out HB4.out
      have HF := Lib.hid (fixed10_walk y4 hT4 (lowB_le hT4))
      have HNU : Hid (nU x = IntKind.u64.wrap (pN x)) := Lib.hid (if_pos HO.out)
      have HOK : Hid (pOk x = true) := Lib.hid (HO.out)
      rw [HNU.out, HOK.out]
      clear hT4 HC1 HC2 HC3 HC4 HB2 HB3 HR5 HV HR HPV
      go_upto_region 7 with (first
        | (go_at_call 35; (with_reducible refine HF.out.mono ?_); rintro e y5 ⟨he, hy⟩; obtain rfl : e = _ := he; have HR7 := Lib.hid (HR6.out.below hy); have HB5 : Hid (Below w.heap.size w y5) := Lib.hid (bl HB4.out hy); have HN := Lib.hid (number_num 2 y5 (keep1 HB5.out HG.out)); clear hy HF)
        | (go_at_call 46; (with_reducible refine HN.out.mono ?_); rintro e y6 ⟨he, hy⟩; obtain rfl : e = _ := he; have hr := HR7.out.below hy; have HB6 : Hid (Below w.heap.size w y6) := Lib.hid (bl HB5.out hy); clear hy HN
           have k0 : y6.cell? ⟨q, 0, none⟩ = some (.int .i64 (pOp x : Int)) := hr.k0.trans (by rw [show p5 x 0 = (pOp x : Int) from if_pos HO.out])
           have k1 : y6.cell? ⟨q, 1, none⟩ = some (.int .i64 (pD x : Int)) := hr.k1.trans (by rw [show p5 x 1 = (pD x : Int) from if_pos HO.out])
           have k2 : y6.cell? ⟨q, 2, none⟩ = some (.int .i64 (pA x : Int)) := hr.k2.trans (by rw [show p5 x 2 = (pA x : Int) from if_pos HO.out])
           have k3 : y6.cell? ⟨q, 3, none⟩ = some (.int .i64 (pB x : Int)) := hr.k3.trans (by rw [show p5 x 3 = (pB x : Int) from if_pos HO.out])
           have k4 : y6.cell? ⟨q, 4, none⟩ = some (.int .i64 (pC x : Int)) := hr.k4.trans (by rw [show p5 x 4 = (pC x : Int) from if_pos HO.out])
           clear hr))
      clear k0 k1 k2 k3 k4 HR7 HR6
      go_wp2_with (fail)
      exact bodyPost_ret (v := .bool true) (by simp [results, Tryd.results12, go_sem]) rfl ⟨rfl, HB6.out⟩
    · skip
      rw [if_neg hc] at HV HR
      rw [HV.out] at HC1
      rw [HR.out] at HC2
      rw [if_neg hp] at HPV
      have HE := Lib.hid hc
      have HO := Lib.hid hp
      clear hc hp
      go_enter Tryd.func12, Tryd.ntmps12
      go_upto_region 3 with (first
        | (go_at_call 42; (with_reducible refine HC1.out.mono ?_); rintro e y ⟨he, hy⟩; obtain rfl : e = _ := he; subst hy)
        | (go_at_call 43; (with_reducible refine HC2.out.mono ?_); rintro e y2 ⟨he, hy⟩; obtain rfl : e = _ := he; have HB2 := Lib.hid hy; clear hy))
      have HC3 := Lib.hid (rparts_walk y2 x HX.out)
      go_upto_region 4 with (go_at_call 44; (with_reducible refine HC3.out.mono ?_); rintro e y3 ⟨q, he, hr, hy⟩; obtain rfl : e = _ := he; have HR5 := Lib.hid hr; have HB3 : Hid (Below w.heap.size w y3) := Lib.hid (bl HB2.out hy); clear hy hr)
      have HC4 := Lib.hid (parts_walk y3 x HX.out)
      rw [HPV.out] at HC4
      go_upto_region 5 with (go_at_call 45; (with_reducible refine HC4.out.mono ?_); rintro e y4 ⟨he, hy⟩; obtain rfl : e = _ := he; have HR6 := Lib.hid (HR5.out.below hy); have HB4 : Hid (Below w.heap.size w y4) := Lib.hid (bl HB3.out hy); clear hy)
      have hT4 := ktab_below HT.out HB4.out
      have HF := Lib.hid (fixed10_walk y4 hT4 (lowB_le hT4))
      have HNU : Hid (nU x = 0) := Lib.hid (if_neg HO.out)
      have HOK : Hid (pOk x = false) := Lib.hid (by simpa using HO.out)
      rw [HNU.out, HOK.out]
      clear hT4 HC1 HC2 HC3 HC4 HB2 HB3 HR5 HV HR HPV
      go_upto_region 7 with (first
        | (go_at_call 35; (with_reducible refine HF.out.mono ?_); rintro e y5 ⟨he, hy⟩; obtain rfl : e = _ := he; have HR7 := Lib.hid (HR6.out.below hy); have HB5 : Hid (Below w.heap.size w y5) := Lib.hid (bl HB4.out hy); have HN := Lib.hid (number_num 2 y5 (keep1 HB5.out HG.out)); clear hy HF)
        | (go_at_call 46; (with_reducible refine HN.out.mono ?_); rintro e y6 ⟨he, hy⟩; obtain rfl : e = _ := he; have hr := HR7.out.below hy; have HB6 : Hid (Below w.heap.size w y6) := Lib.hid (bl HB5.out hy); clear hy HN
           have k0 : y6.cell? ⟨q, 0, none⟩ = some (.int .i64 0) := hr.k0.trans (by rw [show p5 x 0 = 0 from if_neg HO.out])
           have k1 : y6.cell? ⟨q, 1, none⟩ = some (.int .i64 0) := hr.k1.trans (by rw [show p5 x 1 = 0 from if_neg HO.out])
           have k2 : y6.cell? ⟨q, 2, none⟩ = some (.int .i64 0) := hr.k2.trans (by rw [show p5 x 2 = 0 from if_neg HO.out])
           have k3 : y6.cell? ⟨q, 3, none⟩ = some (.int .i64 0) := hr.k3.trans (by rw [show p5 x 3 = 0 from if_neg HO.out])
           have k4 : y6.cell? ⟨q, 4, none⟩ = some (.int .i64 0) := hr.k4.trans (by rw [show p5 x 4 = 0 from if_neg HO.out])
           clear hr))
      clear k0 k1 k2 k3 k4 HR7 HR6
      go_wp2_with (fail)
      exact bodyPost_ret (v := .bool true) (by simp [results, Tryd.results12, go_sem]) rfl ⟨rfl, HB6.out⟩
end Vm
end Go.Proofs.YtdmffnjbholkkaaDoor
