/-
  VmOracle: the law. Written by genYw.py. Own work.
-/
import Derived.Test.YtdmffnjbholkkaaDoorYv
import Derived.Test.YtdmffnjbholkkaaDoorArr
namespace Go.Proofs.YtdmffnjbholkkaaDoor
open Go.ChangeShapes Go.WideShapes Go.RowKit
set_option linter.unusedVariables false
set_option linter.unusedSimpArgs false
namespace Vm
open Kc Mk
theorem arrMem : Tryd.prog.underlying 84 = some (.array (Tryd.prog.arrayLen 84) (Tryd.prog.elem 84)) := by kernel_rfl
theorem lenMem : Tryd.prog.arrayLen 84 = 8192 := by kernel_rfl
theorem elMem (w : World) : (sizeOf (Tryd.prog.elem 84)).run Tryd.prog w = .ok 1 w := by kernel_rfl
theorem slMF (q F : Nat) (hF : F < 8192) (w : World) : (Instr.sliceAt 84 (.pointer (some ⟨q, 0, none⟩)) (some (.int .u64 F)) none none).run Tryd.prog w = .ok (.slice (some ⟨q, F, none⟩) (8192 - F) (8192 - F)) w := by
  rw [run_sliceAt_array_l w _ ⟨q, 0, none⟩ arrMem .u64 F (by omega) (by rw [lenMem]; omega), elMem]
  simp [slicedAt, lenMem, add_at]
  omega
theorem arr8 : Tryd.prog.underlying 92 = some (.array (Tryd.prog.arrayLen 92) (Tryd.prog.elem 92)) := by kernel_rfl
theorem len8 : Tryd.prog.arrayLen 92 = 8 := by kernel_rfl
theorem el8 (w : World) : (sizeOf (Tryd.prog.elem 92)).run Tryd.prog w = .ok 1 w := by kernel_rfl
theorem sl8 (q : Nat) (w : World) : (Instr.sliceAt 92 (.pointer (some ⟨q, 0, none⟩)) none none none).run Tryd.prog w = .ok (.slice (some ⟨q, 0, none⟩) 8 8) w := by
  rw [run_sliceAt_array_all w _ ⟨q, 0, none⟩ arr8, el8]
  simp [slicedAt, len8, add_at]
theorem inf8' : (Tryd.prog.info? 92).map (·.size) = some 8 := by kernel_rfl
theorem load8 {w : World} {q : Nat} {g : Nat → Value} (h : IsTab w q 92 8 g) : (Instr.loadAt 92 (.pointer (some ⟨q, 0, none⟩))).run Tryd.prog w = .ok (.agg (tab 8 g)) w :=
  run_loadVar_row w q 92 92 _ (0, 0) _ h arr8 rfl (by rw [tab_size]; exact inf8')
theorem und8w : Tryd.prog.underlying 92 = some (.array 8 78) := by kernel_rfl
theorem idx8 (f : Nat → Nat) (i : Nat) (hi : i < 8) (w : World) : (Instr.index 92 (.agg (tab 8 fun i => .int .u64 (f i : Int))) (.int .i64 i)).run Tryd.prog w = .ok (.int .u64 (f i : Int)) w := by
  have h0 : (0 : Int) ≤ i ∧ (i : Int) < (8 : Nat) := by omega
  unfold Instr.index
  simp only [asIntOf, Sem.run_bind, Sem.run_pure, Result.andThen_ok, run_underlying und8w, sizeU64, part, aggW, if_pos h0, Int.toNat_natCast, if_false, Bool.false_eq_true, Nat.mul_one]
  rw [tab_at _ hi]
  rfl
def ora (j : Nat) : Ins := if j = 0 then insOf 34 0 1 2 0 0 else if j = 1 then insOf 35 0 2 3 0 0 else insOf 0 0 0 0 0 0
theorem isIns_ora (w : World) (t : TypeId) : IsIns (w.alloc (.cells (insV (ora 0) ++ insV (ora 1) ++ insV (ora 2)).toArray t)) w.heap.size 0 3 ora := fun j i v hj hv => by
  have hi : i < 7 := by
    obtain ⟨h, _⟩ := List.getElem?_eq_some_iff.1 hv
    simpa [insV] using h
  rw [show 0 + j * 7 + i = j * 7 + i from by omega, cell_of_row _ _ _ _ _ _ (heap_alloc_new w _)]
  have e : j = 0 ∨ j = 1 ∨ j = 2 := by omega
  have e7 : i = 0 ∨ i = 1 ∨ i = 2 ∨ i = 3 ∨ i = 4 ∨ i = 5 ∨ i = 6 := by omega
  rcases e with rfl | rfl | rfl <;> (rw [← hv]; clear hv hi hj; rcases e7 with rfl | rfl | rfl | rfl | rfl | rfl | rfl <;> rfl)
theorem mc_exL (M : Mac) (F : Nat) (f : Nat → Nat) (hF : F + 8 ≤ 8192) (i : Nat) (hi : i < 8211) : splv (mc M) F 8 (fun j => .int .u64 (f j : Int)) i = mc (exL M F 8 f) i := by
  unfold splv mc exL
  by_cases h : F ≤ i ∧ i < F + 8
  · rw [if_pos h, if_pos (by omega)]
    simp only
    rw [if_pos h]
  · rw [if_neg h]
    simp only
    split
    · first | rfl | rw [if_neg h]
    · rfl
set_option maxHeartbeats 4000000 in
set_option maxRecDepth 100000 in
theorem vo_hit (f : Nat → Nat) (F0 D0 B0 F D B : Nat) (hf : ∀ i, f i < 18446744073709551616) (h5 : 10 + (F0 : Int) % 8174 = (F : Int) ∧ 10 + (D0 : Int) % 8178 = (D : Int) ∧ 10 + (B0 : Int) % 8174 = (B : Int)) (hF : 10 ≤ F ∧ F + 8 ≤ 8192) (hD : 10 ≤ D ∧ D + 4 ≤ 8192) (hB : 10 ≤ B ∧ B + 8 ≤ 8192) (hap : F < D + 4 ∧ D < F + 8) (w : World) (hg : Laid.KTab w) :
    Calls Tryd.prog 9 #[.agg (tab 8 fun i => .int .u64 (f i : Int)), .int .u64 F0, .int .u64 D0, .int .u64 B0] w fun e w' => e = .returned (.bool true) ∧ Below w.heap.size w w' := by
  obtain ⟨h51, h52, h53⟩ := h5
  have hd4 : IntKind.u64.wrap ((D : Int) + 4) = ((D + 4 : Nat) : Int) := by rw [IntWalk.u64_in _ (by omega)]; omega
  have hf8 : IntKind.u64.wrap ((F : Int) + 8) = ((F + 8 : Nat) : Int) := by rw [IntWalk.u64_in _ (by omega)]; omega
  obtain ⟨D4, hD4⟩ : ∃ D4, D + 4 = D4 := ⟨_, rfl⟩
  obtain ⟨F8, hF8⟩ : ∃ F8, F + 8 = F8 := ⟨_, rfl⟩
  rw [hD4] at hd4
  rw [hF8] at hf8
  have t1 : decide (F < D4) = true := by simp; omega
  have t2 : decide (D < F8) = true := by simp; omega
  have HF := Lib.hid (And.intro hf (And.intro hF (And.intro hD hB)))
  have HAP := Lib.hid hap
  have HT := Lib.hid hg
  clear hf hF hD hB hap hg hD4 hF8
  have HA : Hid (IsTab ((w.alloc (.cells (tab 8 fun i => .int .u64 (f i : Int)) 92)).alloc (.cells #[.int .i64 34, .int .i64 0, .int .i64 1, .int .i64 2, .int .i64 0, .int .i64 0, .int .u64 0, .int .i64 35, .int .i64 0, .int .i64 2, .int .i64 3, .int .i64 0, .int .i64 0, .int .u64 0, .int .i64 0, .int .i64 0, .int .i64 0, .int .i64 0, .int .i64 0, .int .i64 0, .int .u64 0] 82)) w.heap.size 92 8 (fun i => .int .u64 (f i : Int)) ∧ Below w.heap.size w ((w.alloc (.cells (tab 8 fun i => .int .u64 (f i : Int)) 92)).alloc (.cells #[.int .i64 34, .int .i64 0, .int .i64 1, .int .i64 2, .int .i64 0, .int .i64 0, .int .u64 0, .int .i64 35, .int .i64 0, .int .i64 2, .int .i64 3, .int .i64 0, .int .i64 0, .int .u64 0, .int .i64 0, .int .i64 0, .int .i64 0, .int .i64 0, .int .i64 0, .int .i64 0, .int .u64 0] 82)) ∧ ((w.alloc (.cells (tab 8 fun i => .int .u64 (f i : Int)) 92)).alloc (.cells #[.int .i64 34, .int .i64 0, .int .i64 1, .int .i64 2, .int .i64 0, .int .i64 0, .int .u64 0, .int .i64 35, .int .i64 0, .int .i64 2, .int .i64 3, .int .i64 0, .int .i64 0, .int .u64 0, .int .i64 0, .int .i64 0, .int .i64 0, .int .i64 0, .int .i64 0, .int .i64 0, .int .u64 0] 82)).heap.size = w.heap.size + 2 ∧ IsIns ((w.alloc (.cells (tab 8 fun i => .int .u64 (f i : Int)) 92)).alloc (.cells #[.int .i64 34, .int .i64 0, .int .i64 1, .int .i64 2, .int .i64 0, .int .i64 0, .int .u64 0, .int .i64 35, .int .i64 0, .int .i64 2, .int .i64 3, .int .i64 0, .int .i64 0, .int .u64 0, .int .i64 0, .int .i64 0, .int .i64 0, .int .i64 0, .int .i64 0, .int .i64 0, .int .u64 0] 82)) (w.heap.size + 1) 0 3 ora) := Lib.hid ⟨(IsTab.new w _ 8 _).alloc _, ((Below.refl _ _).alloc (Nat.le_refl _) _).alloc (by simp) _, by simp, by
    have h := isIns_ora (w.alloc (.cells (tab 8 fun i => .int .u64 (f i : Int)) 92)) 82
    have e : (w.alloc (.cells (tab 8 fun i => .int .u64 (f i : Int)) 92)).heap.size = w.heap.size + 1 := by simp
    rw [e] at h
    exact h⟩
  have HW0 : Hid (WordIs (wordOf (ora 0)) 34 0 1 2 0 0) := Lib.hid (word_of 34 0 1 2 0 0 (by decide) (by decide) (by decide) (by decide) (by decide) (by decide))
  have HW1 : Hid (WordIs (wordOf (ora 1)) 35 0 2 3 0 0) := Lib.hid (word_of 35 0 2 3 0 0 (by decide) (by decide) (by decide) (by decide) (by decide) (by decide))
  have HW2 : Hid (WordIs (wordOf (ora 2)) 0 0 0 0 0 0) := Lib.hid (word_of 0 0 0 0 0 0 (by decide) (by decide) (by decide) (by decide) (by decide) (by decide))
  have HWA : Hid (∀ i, wordOf (ora i) < 18446744073709551616) := Lib.hid (fun i => by
    rcases i with _ | _ | i
    · exact HW0.out.lt
    · exact HW1.out.lt
    · exact HW2.out.lt)
  generalize hfv : (tab 8 fun i => .int .u64 (f i : Int)) = fv at *
  have HFV := Lib.hid hfv
  clear hfv
  go_enter Tryd.func9, Tryd.ntmps9
  have HC := Lib.hid (loadedOf_walk ((w.alloc (.cells fv 92)).alloc (.cells #[.int .i64 34, .int .i64 0, .int .i64 1, .int .i64 2, .int .i64 0, .int .i64 0, .int .u64 0, .int .i64 35, .int .i64 0, .int .i64 2, .int .i64 3, .int .i64 0, .int .i64 0, .int .u64 0, .int .i64 0, .int .i64 0, .int .i64 0, .int .i64 0, .int .i64 0, .int .i64 0, .int .u64 0] 82)) (w.heap.size + 1) 0 3 3 ora HA.out.2.2.2 (by rw [HA.out.2.2.1]; omega) (by decide) (by decide))
  go_upto_region 2 with (go_at_call 34; (with_reducible refine HC.out.mono ?_); rintro e y ⟨b, he, hm, hb, hk⟩; obtain rfl : e = _ := he; have HM := Lib.hid hm; have HB := Lib.hid (And.intro hk hb); clear hm hb hk HC)
  generalize ((w.alloc (.cells fv 92)).alloc (.cells #[.int .i64 34, .int .i64 0, .int .i64 1, .int .i64 2, .int .i64 0, .int .i64 0, .int .u64 0, .int .i64 35, .int .i64 0, .int .i64 2, .int .i64 3, .int .i64 0, .int .i64 0, .int .u64 0, .int .i64 0, .int .i64 0, .int .i64 0, .int .i64 0, .int .i64 0, .int .i64 0, .int .u64 0] 82)) = yb at *
  have HTB := Lib.hid (ktab_below HT.out HA.out.2.1)
  generalize hX : (fun j => wordOf (ora j)) = X at *
  have e0 : wordOf (ora 0) = X 0 := congrFun hX 0
  have e1 : wordOf (ora 1) = X 1 := congrFun hX 1
  have e2 : wordOf (ora 2) = X 2 := congrFun hX 2
  have HWA : Hid (∀ i, X i < 18446744073709551616) := Lib.hid (fun i => by rw [← hX]; exact HWA.out i)
  rw [e0] at HW0
  rw [e1] at HW1
  rw [e2] at HW2
  clear e0 e1 e2 hX
  have hT1 := ktab_below HTB.out HB.out.1
  have HN1 := Lib.hid (Wt.New_walk y hT1 (lowB_le' hT1))
  clear hT1
  go_upto_region 3 with (go_at_call 13; (with_reducible refine HN1.out.mono ?_); rintro e y2 ⟨s, T, kb, fb, he, hst, hb, hlo, hlt, hkt⟩; obtain rfl : e = _ := he; have HM2 := Lib.hid (HM.out.below hb); have HB2 : Hid (Below yb.heap.size yb y2) := Lib.hid (bl HB.out.1 hb); have HS2 := Lib.hid (And.intro hst (And.intro hlo hlt)); clear hst hb hlo hlt hkt HN1)
  have HBK : Hid (yb.heap.size ≤ b ∧ b < y.heap.size ∧ yb.heap.size ≤ y.heap.size) := Lib.hid ⟨HB.out.2, HM.out.lt, HB.out.1.size⟩
  have hT2 := ktab_below HTB.out HB2.out
  have HFX := Lib.hid (fixed10_walk y2 hT2 (lowB_le' hT2))
  clear hT2 HM
  go_upto_region 5 with (go_at_call 35; (with_reducible refine HFX.out.mono ?_); rintro e y3 ⟨he, hb⟩; obtain rfl : e = _ := he; have HM3 := Lib.hid (HM2.out.below hb); have HB3 : Hid (Below yb.heap.size yb y3) := Lib.hid (bl HB2.out hb); have HS3 : Hid (Wt.IsSt y3 T s kb fb Wt.nw ∧ (∀ j, Wt.Foot T kb fb j → y.heap.size ≤ j) ∧ ∀ j, T j → j < y3.heap.size) := Lib.hid ⟨HS2.out.1.below hb, HS2.out.2.1, fun j hj => Nat.lt_of_lt_of_le (HS2.out.2.2 j hj) hb.size⟩; clear hb HFX)
  clear HM2 HS2
  go_wp2_with (fail)
  exact bodyPost_ret (v := .bool true) (by simp [results, Tryd.results9, go_sem]) rfl ⟨rfl, bl HA.out.2.1 HB3.out⟩
set_option maxHeartbeats 4000000 in
set_option maxRecDepth 100000 in
theorem vo_a (f : Nat → Nat) (F0 D0 B0 F D B : Nat) (hf : ∀ i, f i < 18446744073709551616) (h5 : 10 + (F0 : Int) % 8174 = (F : Int) ∧ 10 + (D0 : Int) % 8178 = (D : Int) ∧ 10 + (B0 : Int) % 8174 = (B : Int)) (hF : 10 ≤ F ∧ F + 8 ≤ 8192) (hD : 10 ≤ D ∧ D + 4 ≤ 8192) (hB : 10 ≤ B ∧ B + 8 ≤ 8192) (hap : D + 4 ≤ F) (w : World) (hg : Laid.KTab w) :
    Calls Tryd.prog 9 #[.agg (tab 8 fun i => .int .u64 (f i : Int)), .int .u64 F0, .int .u64 D0, .int .u64 B0] w fun e w' => e = .returned (.bool true) ∧ Below w.heap.size w w' := by
  obtain ⟨h51, h52, h53⟩ := h5
  have hd4 : IntKind.u64.wrap ((D : Int) + 4) = ((D + 4 : Nat) : Int) := by rw [IntWalk.u64_in _ (by omega)]; omega
  have hf8 : IntKind.u64.wrap ((F : Int) + 8) = ((F + 8 : Nat) : Int) := by rw [IntWalk.u64_in _ (by omega)]; omega
  obtain ⟨D4, hD4⟩ : ∃ D4, D + 4 = D4 := ⟨_, rfl⟩
  obtain ⟨F8, hF8⟩ : ∃ F8, F + 8 = F8 := ⟨_, rfl⟩
  rw [hD4] at hd4
  rw [hF8] at hf8
  have t1 : decide (F < D4) = false := by simp; omega
  have HF := Lib.hid (And.intro hf (And.intro hF (And.intro hD hB)))
  have HAP := Lib.hid hap
  have HT := Lib.hid hg
  clear hf hF hD hB hap hg hD4 hF8
  have HA : Hid (IsTab ((w.alloc (.cells (tab 8 fun i => .int .u64 (f i : Int)) 92)).alloc (.cells #[.int .i64 34, .int .i64 0, .int .i64 1, .int .i64 2, .int .i64 0, .int .i64 0, .int .u64 0, .int .i64 35, .int .i64 0, .int .i64 2, .int .i64 3, .int .i64 0, .int .i64 0, .int .u64 0, .int .i64 0, .int .i64 0, .int .i64 0, .int .i64 0, .int .i64 0, .int .i64 0, .int .u64 0] 82)) w.heap.size 92 8 (fun i => .int .u64 (f i : Int)) ∧ Below w.heap.size w ((w.alloc (.cells (tab 8 fun i => .int .u64 (f i : Int)) 92)).alloc (.cells #[.int .i64 34, .int .i64 0, .int .i64 1, .int .i64 2, .int .i64 0, .int .i64 0, .int .u64 0, .int .i64 35, .int .i64 0, .int .i64 2, .int .i64 3, .int .i64 0, .int .i64 0, .int .u64 0, .int .i64 0, .int .i64 0, .int .i64 0, .int .i64 0, .int .i64 0, .int .i64 0, .int .u64 0] 82)) ∧ ((w.alloc (.cells (tab 8 fun i => .int .u64 (f i : Int)) 92)).alloc (.cells #[.int .i64 34, .int .i64 0, .int .i64 1, .int .i64 2, .int .i64 0, .int .i64 0, .int .u64 0, .int .i64 35, .int .i64 0, .int .i64 2, .int .i64 3, .int .i64 0, .int .i64 0, .int .u64 0, .int .i64 0, .int .i64 0, .int .i64 0, .int .i64 0, .int .i64 0, .int .i64 0, .int .u64 0] 82)).heap.size = w.heap.size + 2 ∧ IsIns ((w.alloc (.cells (tab 8 fun i => .int .u64 (f i : Int)) 92)).alloc (.cells #[.int .i64 34, .int .i64 0, .int .i64 1, .int .i64 2, .int .i64 0, .int .i64 0, .int .u64 0, .int .i64 35, .int .i64 0, .int .i64 2, .int .i64 3, .int .i64 0, .int .i64 0, .int .u64 0, .int .i64 0, .int .i64 0, .int .i64 0, .int .i64 0, .int .i64 0, .int .i64 0, .int .u64 0] 82)) (w.heap.size + 1) 0 3 ora) := Lib.hid ⟨(IsTab.new w _ 8 _).alloc _, ((Below.refl _ _).alloc (Nat.le_refl _) _).alloc (by simp) _, by simp, by
    have h := isIns_ora (w.alloc (.cells (tab 8 fun i => .int .u64 (f i : Int)) 92)) 82
    have e : (w.alloc (.cells (tab 8 fun i => .int .u64 (f i : Int)) 92)).heap.size = w.heap.size + 1 := by simp
    rw [e] at h
    exact h⟩
  have HW0 : Hid (WordIs (wordOf (ora 0)) 34 0 1 2 0 0) := Lib.hid (word_of 34 0 1 2 0 0 (by decide) (by decide) (by decide) (by decide) (by decide) (by decide))
  have HW1 : Hid (WordIs (wordOf (ora 1)) 35 0 2 3 0 0) := Lib.hid (word_of 35 0 2 3 0 0 (by decide) (by decide) (by decide) (by decide) (by decide) (by decide))
  have HW2 : Hid (WordIs (wordOf (ora 2)) 0 0 0 0 0 0) := Lib.hid (word_of 0 0 0 0 0 0 (by decide) (by decide) (by decide) (by decide) (by decide) (by decide))
  have HWA : Hid (∀ i, wordOf (ora i) < 18446744073709551616) := Lib.hid (fun i => by
    rcases i with _ | _ | i
    · exact HW0.out.lt
    · exact HW1.out.lt
    · exact HW2.out.lt)
  generalize hfv : (tab 8 fun i => .int .u64 (f i : Int)) = fv at *
  have HFV := Lib.hid hfv
  clear hfv
  go_enter Tryd.func9, Tryd.ntmps9
  have HC := Lib.hid (loadedOf_walk ((w.alloc (.cells fv 92)).alloc (.cells #[.int .i64 34, .int .i64 0, .int .i64 1, .int .i64 2, .int .i64 0, .int .i64 0, .int .u64 0, .int .i64 35, .int .i64 0, .int .i64 2, .int .i64 3, .int .i64 0, .int .i64 0, .int .u64 0, .int .i64 0, .int .i64 0, .int .i64 0, .int .i64 0, .int .i64 0, .int .i64 0, .int .u64 0] 82)) (w.heap.size + 1) 0 3 3 ora HA.out.2.2.2 (by rw [HA.out.2.2.1]; omega) (by decide) (by decide))
  go_upto_region 2 with (go_at_call 34; (with_reducible refine HC.out.mono ?_); rintro e y ⟨b, he, hm, hb, hk⟩; obtain rfl : e = _ := he; have HM := Lib.hid hm; have HB := Lib.hid (And.intro hk hb); clear hm hb hk HC)
  generalize ((w.alloc (.cells fv 92)).alloc (.cells #[.int .i64 34, .int .i64 0, .int .i64 1, .int .i64 2, .int .i64 0, .int .i64 0, .int .u64 0, .int .i64 35, .int .i64 0, .int .i64 2, .int .i64 3, .int .i64 0, .int .i64 0, .int .u64 0, .int .i64 0, .int .i64 0, .int .i64 0, .int .i64 0, .int .i64 0, .int .i64 0, .int .u64 0] 82)) = yb at *
  have HTB := Lib.hid (ktab_below HT.out HA.out.2.1)
  generalize hX : (fun j => wordOf (ora j)) = X at *
  have e0 : wordOf (ora 0) = X 0 := congrFun hX 0
  have e1 : wordOf (ora 1) = X 1 := congrFun hX 1
  have e2 : wordOf (ora 2) = X 2 := congrFun hX 2
  have HWA : Hid (∀ i, X i < 18446744073709551616) := Lib.hid (fun i => by rw [← hX]; exact HWA.out i)
  rw [e0] at HW0
  rw [e1] at HW1
  rw [e2] at HW2
  clear e0 e1 e2 hX
  have hT1 := ktab_below HTB.out HB.out.1
  have HN1 := Lib.hid (Wt.New_walk y hT1 (lowB_le' hT1))
  clear hT1
  go_upto_region 3 with (go_at_call 13; (with_reducible refine HN1.out.mono ?_); rintro e y2 ⟨s, T, kb, fb, he, hst, hb, hlo, hlt, hkt⟩; obtain rfl : e = _ := he; have HM2 := Lib.hid (HM.out.below hb); have HB2 : Hid (Below yb.heap.size yb y2) := Lib.hid (bl HB.out.1 hb); have HS2 := Lib.hid (And.intro hst (And.intro hlo hlt)); clear hst hb hlo hlt hkt HN1)
  have HBK : Hid (yb.heap.size ≤ b ∧ b < y.heap.size ∧ yb.heap.size ≤ y.heap.size) := Lib.hid ⟨HB.out.2, HM.out.lt, HB.out.1.size⟩
  have hT2 := ktab_below HTB.out HB2.out
  have HFX := Lib.hid (fixed10_walk y2 hT2 (lowB_le' hT2))
  clear hT2 HM
  go_upto_region 5 with (go_at_call 35; (with_reducible refine HFX.out.mono ?_); rintro e y3 ⟨he, hb⟩; obtain rfl : e = _ := he; have HM3 := Lib.hid (HM2.out.below hb); have HB3 : Hid (Below yb.heap.size yb y3) := Lib.hid (bl HB2.out hb); have HS3 : Hid (Wt.IsSt y3 T s kb fb Wt.nw ∧ (∀ j, Wt.Foot T kb fb j → y.heap.size ≤ j) ∧ ∀ j, T j → j < y3.heap.size) := Lib.hid ⟨HS2.out.1.below hb, HS2.out.2.1, fun j hj => Nat.lt_of_lt_of_le (HS2.out.2.2 j hj) hb.size⟩; clear hb HFX)
  clear HM2 HS2
  go_upto_region 8 with (fail)
  clear h51 h52 h53 hd4 hf8 t1
  have HM4 := Lib.hid (HM3.out.kept (Wt.kept_drew y3) id)
  have H84 := Lib.hid ((HA.out.1.below HB3.out).drew)
  have HB4 := Lib.hid HB3.out.drew
  have HS4 := Lib.hid (HS3.out.1.kept (Wt.kept_drew y3) (fun _ _ h => h) id id)
  have HS5 : Hid (y3.drew.heap.size = y3.heap.size) := Lib.hid rfl
  refine wp_region_og (fun _ : World => True) (.take 0 (.take 1 (.take 2 (.take 3 (.take 4 (.take 5 (.one 6 .done))))))) (by kernel_rfl) (by kernel_rfl) trivial ?_
  generalize y3.drew = y4 at *
  refine og_tk (some 51) (.pointer (some ⟨b, 0, none⟩)) rfl rfl (by go_simp) (fun _ _ => by simp [execOp, go_sem]) ?_
  simp only [Act.put, List.setIfInBounds_toArray, List.set_cons_zero, List.set_cons_succ]
  refine og_tk (some 52) (.pointer (some ⟨b, 0, none⟩)) rfl rfl (by go_simp) (fun _ _ => by simp [execOp, go_sem]) ?_
  simp only [Act.put, List.setIfInBounds_toArray, List.set_cons_zero, List.set_cons_succ]
  refine og_tk (some 53) (.pointer (some ⟨b, 0, none⟩)) rfl rfl (by go_simp) (fun _ _ => by simp [execOp, go_sem]) ?_
  simp only [Act.put, List.setIfInBounds_toArray, List.set_cons_zero, List.set_cons_succ]
  refine og_tk (some 54) (.int .u64 F) rfl rfl (by go_simp) (fun _ _ => by simp [execOp, go_sem]) ?_
  simp only [Act.put, List.setIfInBounds_toArray, List.set_cons_zero, List.set_cons_succ]
  refine og_tk (some 55) (.slice (some ⟨b, F, none⟩) (8192 - F) (8192 - F)) rfl rfl (by go_simp) (fun y hy => by have h := slMF b F (by have := HF.out; omega) y; simp [execOp, go_sem, h, Result.andThen]) ?_
  simp only [Act.put, List.setIfInBounds_toArray, List.set_cons_zero, List.set_cons_succ]
  refine og_tk (some 56) (.slice (some ⟨w.heap.size, 0, none⟩) 8 8) rfl rfl (by go_simp) (fun y hy => by have h := sl8 w.heap.size y; simp [execOp, go_sem, h, Result.andThen]) ?_
  simp only [Act.put, List.setIfInBounds_toArray, List.set_cons_zero, List.set_cons_succ]
  refine og_f rfl (by go_simp) fun K hK => ?_
  refine wp_copy_tab (.tmp 55) (.tmp 56) 93 93 rfl 78 undW sizeW b F (8192 - F) (8192 - F) ⟨w.heap.size, 0, none⟩ 8 8 rfl rfl 87 8211 (mc (loaded 3 X)) HM4.out 8 (by have := HF.out; omega) (fun j => .int .u64 (f j : Int)) (fun j hj => by rw [add_at, Nat.zero_add]; exact H84.out.cell j hj) (by have := HF.out; omega) (fun _ => rfl) ?_
  refine hK _ _ trivial ?_
  clear hK K
  try simp only [Act.put, List.setIfInBounds_toArray, List.set_cons_zero, List.set_cons_succ]
  refine og_done (NoPanic.normal ?_)
  have HM5 : Hid (IsMac (y4.setRow b (tab 8211 (splv (mc (loaded 3 X)) F 8 fun j => .int .u64 (f j : Int)))) b (exL (loaded 3 X) F 8 f)) := Lib.hid ((IsTab.row (f := mc (loaded 3 X)) HM4.out).cong fun i hi => mc_exL _ F f HF.out.2.1.2 i hi)
  have HK5 : Hid (Kept (fun k => k = b) y4 (y4.setRow b (tab 8211 (splv (mc (loaded 3 X)) F 8 fun j => .int .u64 (f j : Int))))) := Lib.hid ⟨by simp, by simp, by simp, by simp, fun k _ hk => setRow_other _ _ _ _ hk⟩
  clear HM3 HM4
  generalize y4.setRow b (tab 8211 (splv (mc (loaded 3 X)) F 8 fun j => .int .u64 (f j : Int))) = y5 at *
  go_upto_region 9 with (fail)
  have HM5 := Lib.hid (HM5.out.kept (Wt.kept_drew y5) id)
  have HK5 := Lib.hid HK5.out.drew
  refine wp_region_oz (fun _ : World => True) 17 (.take 0 (.take 1 (.take 2 (.take 3 (.take 4 (.take 5 (.take 6 (.take 7 (.take 8 (.take 10 (.take 11 (.free 14 (.free 15 (.one 9 (.take 12 (.one 13 (.take 16 (.one 17 .done)))))))))))))))))) (by kernel_rfl) (by kernel_rfl) trivial ?_
  generalize y5.drew = y5 at *
  refine oz_tk (some 58) (.pointer (some ⟨b, 0, none⟩)) rfl rfl (by go_simp) (fun _ _ => by simp [execOp, go_sem]) ?_
  simp only [Act.put, List.setIfInBounds_toArray, List.set_cons_zero, List.set_cons_succ]
  refine oz_tk (some 59) (.pointer (some ⟨b, 0, none⟩)) rfl rfl (by go_simp) (fun _ _ => by simp [execOp, go_sem]) ?_
  simp only [Act.put, List.setIfInBounds_toArray, List.set_cons_zero, List.set_cons_succ]
  refine oz_tk (some 60) (.pointer (some ⟨b, 0, none⟩)) rfl rfl (by go_simp) (fun _ _ => by simp [execOp, go_sem]) ?_
  simp only [Act.put, List.setIfInBounds_toArray, List.set_cons_zero, List.set_cons_succ]
  refine oz_tk (some 61) (.int .u64 F) rfl rfl (by go_simp) (fun _ _ => by simp [execOp, go_sem]) ?_
  simp only [Act.put, List.setIfInBounds_toArray, List.set_cons_zero, List.set_cons_succ]
  refine oz_tk (some 62) (.int .u64 D) rfl rfl (by go_simp) (fun _ _ => by simp [execOp, go_sem]) ?_
  simp only [Act.put, List.setIfInBounds_toArray, List.set_cons_zero, List.set_cons_succ]
  refine oz_tk (some 63) (.int .u64 B) rfl rfl (by go_simp) (fun _ _ => by simp [execOp, go_sem]) ?_
  simp only [Act.put, List.setIfInBounds_toArray, List.set_cons_zero, List.set_cons_succ]
  refine oz_tk (some 64) (.pointer (some ⟨b, 0, none⟩)) rfl rfl (by go_simp) (fun _ _ => by simp [execOp, go_sem]) ?_
  simp only [Act.put, List.setIfInBounds_toArray, List.set_cons_zero, List.set_cons_succ]
  refine oz_tk (some 65) (.pointer (some ⟨b, 8192, none⟩)) rfl rfl (by go_simp) (fun _ _ => by simp [execOp, go_sem]) ?_
  simp only [Act.put, List.setIfInBounds_toArray, List.set_cons_zero, List.set_cons_succ]
  refine oz_tk (some 66) (.pointer (some ⟨b, 8193, none⟩)) rfl rfl (by go_simp) (fun _ _ => by simp [execOp, go_sem, Result.andThen, Tryd.underlying85]) ?_
  simp only [Act.put, List.setIfInBounds_toArray, List.set_cons_zero, List.set_cons_succ]
  refine oz_tk (some 67) (.pointer (some ⟨b, 0, none⟩)) rfl rfl (by go_simp) (fun _ _ => by simp [execOp, go_sem]) ?_
  simp only [Act.put, List.setIfInBounds_toArray, List.set_cons_zero, List.set_cons_succ]
  refine oz_tk (some 68) (.pointer (some ⟨b, 8192, none⟩)) rfl rfl (by go_simp) (fun _ _ => by simp [execOp, go_sem]) ?_
  simp only [Act.put, List.setIfInBounds_toArray, List.set_cons_zero, List.set_cons_succ]
  refine oz_fr (some 70) (.pointer (some ⟨b, 0, none⟩)) rfl rfl (by go_simp) (fun _ => by simp [execOp, go_sem]) ?_
  simp only [Act.put, List.setIfInBounds_toArray, List.set_cons_zero, List.set_cons_succ]
  refine oz_fr (some 71) (.pointer (some ⟨b, 8192, none⟩)) rfl rfl (by go_simp) (fun _ => by simp [execOp, go_sem]) ?_
  simp only [Act.put, List.setIfInBounds_toArray, List.set_cons_zero, List.set_cons_succ]
  have kd : y5.cell? ⟨b, 8193, none⟩ = some (.int .u64 (((exL (loaded 3 X) F 8 f).reg 1 : Nat) : Int)) := HM5.out.reg (p := 1) (by decide)
  have fd := HM5.out.fz 8193
  have HM6 : Hid (IsMac (y5.setCell ⟨b, 8193, none⟩ (.int .u64 (F : Int))) b (setR (exL (loaded 3 X) F 8 f) 1 F)) := Lib.hid (HM5.out.setReg (d := 1) (by decide) F)
  have HK6 := Lib.hid (kept_set (S := fun k => k = b) HK5.out b 8193 rfl (.int .u64 (F : Int)))
  refine oz_f rfl (by go_simp) fun K hK => ?_
  go_simp
  refine hK _ _ trivial ?_
  clear hK K kd fd HM5 HK5
  try simp only [Act.put, List.setIfInBounds_toArray, List.set_cons_zero, List.set_cons_succ]
  generalize y5.setCell ⟨b, 8193, none⟩ (.int .u64 (F : Int)) = y6 at *
  have HM5 := Lib.hid HM6.out
  have HK5 := Lib.hid HK6.out
  clear HM6 HK6
  refine oz_tk (some 69) (.pointer (some ⟨b, 8194, none⟩)) rfl rfl (by go_simp) (fun _ _ => by simp [execOp, go_sem, Result.andThen, Tryd.underlying85]) ?_
  simp only [Act.put, List.setIfInBounds_toArray, List.set_cons_zero, List.set_cons_succ]
  have kd : y6.cell? ⟨b, 8194, none⟩ = some (.int .u64 (((setR (exL (loaded 3 X) F 8 f) 1 F).reg 2 : Nat) : Int)) := HM5.out.reg (p := 2) (by decide)
  have fd := HM5.out.fz 8194
  have HM6 : Hid (IsMac (y6.setCell ⟨b, 8194, none⟩ (.int .u64 (D : Int))) b (setR (setR (exL (loaded 3 X) F 8 f) 1 F) 2 D)) := Lib.hid (HM5.out.setReg (d := 2) (by decide) D)
  have HK6 := Lib.hid (kept_set (S := fun k => k = b) HK5.out b 8194 rfl (.int .u64 (D : Int)))
  refine oz_f rfl (by go_simp) fun K hK => ?_
  go_simp
  refine hK _ _ trivial ?_
  clear hK K kd fd HM5 HK5
  try simp only [Act.put, List.setIfInBounds_toArray, List.set_cons_zero, List.set_cons_succ]
  generalize y6.setCell ⟨b, 8194, none⟩ (.int .u64 (D : Int)) = y7 at *
  have HM5 := Lib.hid HM6.out
  have HK5 := Lib.hid HK6.out
  clear HM6 HK6
  refine oz_tk (some 72) (.pointer (some ⟨b, 8195, none⟩)) rfl rfl (by go_simp) (fun _ _ => by simp [execOp, go_sem, Result.andThen, Tryd.underlying85]) ?_
  simp only [Act.put, List.setIfInBounds_toArray, List.set_cons_zero, List.set_cons_succ]
  have kd : y7.cell? ⟨b, 8195, none⟩ = some (.int .u64 (((setR (setR (exL (loaded 3 X) F 8 f) 1 F) 2 D).reg 3 : Nat) : Int)) := HM5.out.reg (p := 3) (by decide)
  have fd := HM5.out.fz 8195
  have HM6 : Hid (IsMac (y7.setCell ⟨b, 8195, none⟩ (.int .u64 (B : Int))) b (oA X f F D B)) := Lib.hid (HM5.out.setReg (d := 3) (by decide) B)
  have HK6 := Lib.hid (kept_set (S := fun k => k = b) HK5.out b 8195 rfl (.int .u64 (B : Int)))
  refine oz_z rfl (by go_simp) fun K hK => ?_
  go_simp
  refine hK _ _ ?_
  clear hK K kd fd HM5 HK5
  try simp only [Act.put, List.setIfInBounds_toArray, List.set_cons_zero, List.set_cons_succ]
  generalize y7.setCell ⟨b, 8195, none⟩ (.int .u64 (B : Int)) = y8 at *
  have HM5 := Lib.hid HM6.out
  have HK5 := Lib.hid HK6.out
  clear HM6 HK6
  refine oz_done (NoPanic.normal ?_)
  have HO : Hid (Or yb b s kb fb (oA X f F D B) Wt.nw y8) := by
    have h1 := HBK.out
    have hb1 := HS3.out.2.1 kb (.inr (.inl rfl))
    have hb2 := HS3.out.2.1 fb (.inr (.inr rfl))
    have hz := HK5.out.size
    have hz5 := HS5.out
    have hT : ∀ j, T j → y.heap.size ≤ j ∧ j < y3.heap.size := fun j hj => ⟨HS3.out.2.1 j (.inl hj), HS3.out.2.2 j hj⟩
    exact Lib.hid ⟨HM5.out, ⟨T, HS4.out.kept HK5.out (fun j hj e => by have := hT j hj; omega) (by omega) (by omega), fun j hj => by have := hT j hj; omega⟩, Wt.below_of HB4.out HK5.out fun j _ hj => by omega, HTB.out, by omega⟩
  clear HM5 HK5 HB4 HS4 H84 HS3 HB3
  obtain ⟨T8, hs8, hT8⟩ := HO.out.st
  have HL := Lib.hid (Wt.len_nw T8 s kb fb y8 hs8)
  clear hs8 hT8
  obtain ⟨S0, hS0⟩ : ∃ S0, Wt.nw = S0 := ⟨_, rfl⟩
  have HS0 : Hid (Wt.Apart S0.pres ∧ S0.asked.length < 1073741824 ∧ S0.pres.length = 16) := by
    rw [← hS0, Wt.nw_pres]
    exact Lib.hid ⟨Wt.zs_apart 16, by simp only [Wt.nw]; decide, Wt.zs_len⟩
  rw [hS0] at HO
  clear hS0
  have HR := Lib.hid (oracle_run yb y8 b s kb fb S0 HS0.out.1 HS0.out.2.1 X f F D B HF.out.1 HWA.out HF.out.2.1 HF.out.2.2.1 HF.out.2.2.2 (by have := HAP.out; omega) HW0.out HW1.out HW2.out HO.out)
  go_upto_region 12 with (first
    | (go_at_call 29; (with_reducible refine HL.out.mono ?_); rintro e ya ⟨he, hw⟩; obtain rfl : e = _ := he; subst hw)
    | (go_at_call 37; (with_reducible refine HR.out.mono ?_); rintro e y9 ⟨he, ho⟩; obtain rfl : e = _ := he; have HO9 := Lib.hid ho; clear ho HR))
  obtain ⟨T9, hs9, hT9⟩ := HO9.out.st
  have HL9 := Lib.hid (Wt.len_walk T9 s kb fb (oS S0 f 3) y9 hs9)
  have HL17 := Lib.hid (oS_len S0 f HS0.out.2.2)
  clear hs9 hT9 HL
  generalize hL : (oS S0 f 3).pres.length = L at *
  clear hL
  have kh : y9.cell? ⟨b, 8209, none⟩ = some (.bool true) := HO9.out.mac.halted
  have kx : y9.cell? ⟨b, 8210, none⟩ = some (.int .u64 ((0 : Nat) : Int)) := HO9.out.mac.exit
  have t17 : decide ((17 : Int) < (L : Int)) = false := by have := HL17.out; simp; omega
  have hl8 := load8 (HA.out.1.below HO9.out.below)
  rw [HFV.out] at hl8
  have HL8 := Lib.hid hl8
  clear hl8
  go_wp2_with (first
    | ((with_reducible refine wpList_loadE (P := Tryd.prog) (w := y9) (ty := 92) (x := .tmp 4) (p := .pointer (some ⟨w.heap.size, 0, none⟩)) (v := .agg fv) ?_ ?_ ?_ HL8.out ?_); (· exact rfl); (· exact rfl); (· exact rfl))
    | (go_at_call 29; (with_reducible refine HL9.out.mono ?_); rintro e ya ⟨he, hw⟩; obtain rfl : e = _ := he; subst hw))
  clear kh kx t17
  go_loopw [109] (fun ti y => ∃ i : Nat, i ≤ 8 ∧ ti = .int .i64 i ∧ Hid (y = y9)) (fun ti _ => 8 - (intOf ti).toNat)
  case atStart => exact ⟨0, Nat.zero_le _, rfl, Lib.hid rfl⟩
  case round =>
    obtain ⟨i, hi, rfl, hp⟩ := hrel
    obtain rfl : wr = y9 := hp.out
    by_cases hlt : (i : Int) < 8
    · obtain ⟨c, hc⟩ : ∃ c : Nat, B + i = c := ⟨_, rfl⟩
      have HI : Hid (i < 8 ∧ wrap64 ((i : Int) + 1) = ((i + 1 : Nat) : Int)) := Lib.hid ⟨by omega, by unfold wrap64; omega⟩
      have hb1 : IntKind.u64.wrap (i : Int) = (i : Int) := IntWalk.u64_in _ (by omega)
      have hb2 : IntKind.u64.wrap ((B : Int) + (i : Int)) = (c : Int) := by have := HF.out.2.2.2; rw [IntWalk.u64_in _ (by omega)]; omega
      have hb3 : (c : Int) < 8192 := by have := HF.out.2.2.2; omega
      have km : wr.cell? ⟨b, c, none⟩ = some (.int .u64 (f i : Int)) := by
        have h := HO9.out.mac.mem (p := c) (by omega)
        rw [← hc, oD_mem X f F D B i (by omega) HF.out.1] at h
        rw [← hc]; exact h
      clear hc
      have hix := idx8 f i (by omega) wr
      rw [HFV.out] at hix
      have hw1 := HI.out.2
      go_wp2_with (fail)
      go_roundw
      case rel => exact ⟨i + 1, HI.out.1, by go_num, Lib.hid trivial⟩
      case measure => have := HI.out.1; simp [intOf]; omega
    · obtain rfl : i = 8 := by omega
      go_wp2_with (fail)
      exact bodyPost_ret (v := .bool true) (by simp [results, Tryd.results9, go_sem]) rfl ⟨rfl, bl HA.out.2.1 HO9.out.below⟩
set_option maxHeartbeats 4000000 in
set_option maxRecDepth 100000 in
theorem vo_b (f : Nat → Nat) (F0 D0 B0 F D B : Nat) (hf : ∀ i, f i < 18446744073709551616) (h5 : 10 + (F0 : Int) % 8174 = (F : Int) ∧ 10 + (D0 : Int) % 8178 = (D : Int) ∧ 10 + (B0 : Int) % 8174 = (B : Int)) (hF : 10 ≤ F ∧ F + 8 ≤ 8192) (hD : 10 ≤ D ∧ D + 4 ≤ 8192) (hB : 10 ≤ B ∧ B + 8 ≤ 8192) (hap : F < D + 4 ∧ F + 8 ≤ D) (w : World) (hg : Laid.KTab w) :
    Calls Tryd.prog 9 #[.agg (tab 8 fun i => .int .u64 (f i : Int)), .int .u64 F0, .int .u64 D0, .int .u64 B0] w fun e w' => e = .returned (.bool true) ∧ Below w.heap.size w w' := by
  obtain ⟨h51, h52, h53⟩ := h5
  have hd4 : IntKind.u64.wrap ((D : Int) + 4) = ((D + 4 : Nat) : Int) := by rw [IntWalk.u64_in _ (by omega)]; omega
  have hf8 : IntKind.u64.wrap ((F : Int) + 8) = ((F + 8 : Nat) : Int) := by rw [IntWalk.u64_in _ (by omega)]; omega
  obtain ⟨D4, hD4⟩ : ∃ D4, D + 4 = D4 := ⟨_, rfl⟩
  obtain ⟨F8, hF8⟩ : ∃ F8, F + 8 = F8 := ⟨_, rfl⟩
  rw [hD4] at hd4
  rw [hF8] at hf8
  have t1 : decide (F < D4) = true := by simp; omega
  have t2 : decide (D < F8) = false := by simp; omega
  have HF := Lib.hid (And.intro hf (And.intro hF (And.intro hD hB)))
  have HAP := Lib.hid hap
  have HT := Lib.hid hg
  clear hf hF hD hB hap hg hD4 hF8
  have HA : Hid (IsTab ((w.alloc (.cells (tab 8 fun i => .int .u64 (f i : Int)) 92)).alloc (.cells #[.int .i64 34, .int .i64 0, .int .i64 1, .int .i64 2, .int .i64 0, .int .i64 0, .int .u64 0, .int .i64 35, .int .i64 0, .int .i64 2, .int .i64 3, .int .i64 0, .int .i64 0, .int .u64 0, .int .i64 0, .int .i64 0, .int .i64 0, .int .i64 0, .int .i64 0, .int .i64 0, .int .u64 0] 82)) w.heap.size 92 8 (fun i => .int .u64 (f i : Int)) ∧ Below w.heap.size w ((w.alloc (.cells (tab 8 fun i => .int .u64 (f i : Int)) 92)).alloc (.cells #[.int .i64 34, .int .i64 0, .int .i64 1, .int .i64 2, .int .i64 0, .int .i64 0, .int .u64 0, .int .i64 35, .int .i64 0, .int .i64 2, .int .i64 3, .int .i64 0, .int .i64 0, .int .u64 0, .int .i64 0, .int .i64 0, .int .i64 0, .int .i64 0, .int .i64 0, .int .i64 0, .int .u64 0] 82)) ∧ ((w.alloc (.cells (tab 8 fun i => .int .u64 (f i : Int)) 92)).alloc (.cells #[.int .i64 34, .int .i64 0, .int .i64 1, .int .i64 2, .int .i64 0, .int .i64 0, .int .u64 0, .int .i64 35, .int .i64 0, .int .i64 2, .int .i64 3, .int .i64 0, .int .i64 0, .int .u64 0, .int .i64 0, .int .i64 0, .int .i64 0, .int .i64 0, .int .i64 0, .int .i64 0, .int .u64 0] 82)).heap.size = w.heap.size + 2 ∧ IsIns ((w.alloc (.cells (tab 8 fun i => .int .u64 (f i : Int)) 92)).alloc (.cells #[.int .i64 34, .int .i64 0, .int .i64 1, .int .i64 2, .int .i64 0, .int .i64 0, .int .u64 0, .int .i64 35, .int .i64 0, .int .i64 2, .int .i64 3, .int .i64 0, .int .i64 0, .int .u64 0, .int .i64 0, .int .i64 0, .int .i64 0, .int .i64 0, .int .i64 0, .int .i64 0, .int .u64 0] 82)) (w.heap.size + 1) 0 3 ora) := Lib.hid ⟨(IsTab.new w _ 8 _).alloc _, ((Below.refl _ _).alloc (Nat.le_refl _) _).alloc (by simp) _, by simp, by
    have h := isIns_ora (w.alloc (.cells (tab 8 fun i => .int .u64 (f i : Int)) 92)) 82
    have e : (w.alloc (.cells (tab 8 fun i => .int .u64 (f i : Int)) 92)).heap.size = w.heap.size + 1 := by simp
    rw [e] at h
    exact h⟩
  have HW0 : Hid (WordIs (wordOf (ora 0)) 34 0 1 2 0 0) := Lib.hid (word_of 34 0 1 2 0 0 (by decide) (by decide) (by decide) (by decide) (by decide) (by decide))
  have HW1 : Hid (WordIs (wordOf (ora 1)) 35 0 2 3 0 0) := Lib.hid (word_of 35 0 2 3 0 0 (by decide) (by decide) (by decide) (by decide) (by decide) (by decide))
  have HW2 : Hid (WordIs (wordOf (ora 2)) 0 0 0 0 0 0) := Lib.hid (word_of 0 0 0 0 0 0 (by decide) (by decide) (by decide) (by decide) (by decide) (by decide))
  have HWA : Hid (∀ i, wordOf (ora i) < 18446744073709551616) := Lib.hid (fun i => by
    rcases i with _ | _ | i
    · exact HW0.out.lt
    · exact HW1.out.lt
    · exact HW2.out.lt)
  generalize hfv : (tab 8 fun i => .int .u64 (f i : Int)) = fv at *
  have HFV := Lib.hid hfv
  clear hfv
  go_enter Tryd.func9, Tryd.ntmps9
  have HC := Lib.hid (loadedOf_walk ((w.alloc (.cells fv 92)).alloc (.cells #[.int .i64 34, .int .i64 0, .int .i64 1, .int .i64 2, .int .i64 0, .int .i64 0, .int .u64 0, .int .i64 35, .int .i64 0, .int .i64 2, .int .i64 3, .int .i64 0, .int .i64 0, .int .u64 0, .int .i64 0, .int .i64 0, .int .i64 0, .int .i64 0, .int .i64 0, .int .i64 0, .int .u64 0] 82)) (w.heap.size + 1) 0 3 3 ora HA.out.2.2.2 (by rw [HA.out.2.2.1]; omega) (by decide) (by decide))
  go_upto_region 2 with (go_at_call 34; (with_reducible refine HC.out.mono ?_); rintro e y ⟨b, he, hm, hb, hk⟩; obtain rfl : e = _ := he; have HM := Lib.hid hm; have HB := Lib.hid (And.intro hk hb); clear hm hb hk HC)
  generalize ((w.alloc (.cells fv 92)).alloc (.cells #[.int .i64 34, .int .i64 0, .int .i64 1, .int .i64 2, .int .i64 0, .int .i64 0, .int .u64 0, .int .i64 35, .int .i64 0, .int .i64 2, .int .i64 3, .int .i64 0, .int .i64 0, .int .u64 0, .int .i64 0, .int .i64 0, .int .i64 0, .int .i64 0, .int .i64 0, .int .i64 0, .int .u64 0] 82)) = yb at *
  have HTB := Lib.hid (ktab_below HT.out HA.out.2.1)
  generalize hX : (fun j => wordOf (ora j)) = X at *
  have e0 : wordOf (ora 0) = X 0 := congrFun hX 0
  have e1 : wordOf (ora 1) = X 1 := congrFun hX 1
  have e2 : wordOf (ora 2) = X 2 := congrFun hX 2
  have HWA : Hid (∀ i, X i < 18446744073709551616) := Lib.hid (fun i => by rw [← hX]; exact HWA.out i)
  rw [e0] at HW0
  rw [e1] at HW1
  rw [e2] at HW2
  clear e0 e1 e2 hX
  have hT1 := ktab_below HTB.out HB.out.1
  have HN1 := Lib.hid (Wt.New_walk y hT1 (lowB_le' hT1))
  clear hT1
  go_upto_region 3 with (go_at_call 13; (with_reducible refine HN1.out.mono ?_); rintro e y2 ⟨s, T, kb, fb, he, hst, hb, hlo, hlt, hkt⟩; obtain rfl : e = _ := he; have HM2 := Lib.hid (HM.out.below hb); have HB2 : Hid (Below yb.heap.size yb y2) := Lib.hid (bl HB.out.1 hb); have HS2 := Lib.hid (And.intro hst (And.intro hlo hlt)); clear hst hb hlo hlt hkt HN1)
  have HBK : Hid (yb.heap.size ≤ b ∧ b < y.heap.size ∧ yb.heap.size ≤ y.heap.size) := Lib.hid ⟨HB.out.2, HM.out.lt, HB.out.1.size⟩
  have hT2 := ktab_below HTB.out HB2.out
  have HFX := Lib.hid (fixed10_walk y2 hT2 (lowB_le' hT2))
  clear hT2 HM
  go_upto_region 5 with (go_at_call 35; (with_reducible refine HFX.out.mono ?_); rintro e y3 ⟨he, hb⟩; obtain rfl : e = _ := he; have HM3 := Lib.hid (HM2.out.below hb); have HB3 : Hid (Below yb.heap.size yb y3) := Lib.hid (bl HB2.out hb); have HS3 : Hid (Wt.IsSt y3 T s kb fb Wt.nw ∧ (∀ j, Wt.Foot T kb fb j → y.heap.size ≤ j) ∧ ∀ j, T j → j < y3.heap.size) := Lib.hid ⟨HS2.out.1.below hb, HS2.out.2.1, fun j hj => Nat.lt_of_lt_of_le (HS2.out.2.2 j hj) hb.size⟩; clear hb HFX)
  clear HM2 HS2
  go_upto_region 8 with (fail)
  clear h51 h52 h53 hd4 hf8 t1 t2
  have HM4 := Lib.hid (HM3.out.kept (Wt.kept_drew y3) id)
  have H84 := Lib.hid ((HA.out.1.below HB3.out).drew)
  have HB4 := Lib.hid HB3.out.drew
  have HS4 := Lib.hid (HS3.out.1.kept (Wt.kept_drew y3) (fun _ _ h => h) id id)
  have HS5 : Hid (y3.drew.heap.size = y3.heap.size) := Lib.hid rfl
  refine wp_region_og (fun _ : World => True) (.take 0 (.take 1 (.take 2 (.take 3 (.take 4 (.take 5 (.one 6 .done))))))) (by kernel_rfl) (by kernel_rfl) trivial ?_
  generalize y3.drew = y4 at *
  refine og_tk (some 51) (.pointer (some ⟨b, 0, none⟩)) rfl rfl (by go_simp) (fun _ _ => by simp [execOp, go_sem]) ?_
  simp only [Act.put, List.setIfInBounds_toArray, List.set_cons_zero, List.set_cons_succ]
  refine og_tk (some 52) (.pointer (some ⟨b, 0, none⟩)) rfl rfl (by go_simp) (fun _ _ => by simp [execOp, go_sem]) ?_
  simp only [Act.put, List.setIfInBounds_toArray, List.set_cons_zero, List.set_cons_succ]
  refine og_tk (some 53) (.pointer (some ⟨b, 0, none⟩)) rfl rfl (by go_simp) (fun _ _ => by simp [execOp, go_sem]) ?_
  simp only [Act.put, List.setIfInBounds_toArray, List.set_cons_zero, List.set_cons_succ]
  refine og_tk (some 54) (.int .u64 F) rfl rfl (by go_simp) (fun _ _ => by simp [execOp, go_sem]) ?_
  simp only [Act.put, List.setIfInBounds_toArray, List.set_cons_zero, List.set_cons_succ]
  refine og_tk (some 55) (.slice (some ⟨b, F, none⟩) (8192 - F) (8192 - F)) rfl rfl (by go_simp) (fun y hy => by have h := slMF b F (by have := HF.out; omega) y; simp [execOp, go_sem, h, Result.andThen]) ?_
  simp only [Act.put, List.setIfInBounds_toArray, List.set_cons_zero, List.set_cons_succ]
  refine og_tk (some 56) (.slice (some ⟨w.heap.size, 0, none⟩) 8 8) rfl rfl (by go_simp) (fun y hy => by have h := sl8 w.heap.size y; simp [execOp, go_sem, h, Result.andThen]) ?_
  simp only [Act.put, List.setIfInBounds_toArray, List.set_cons_zero, List.set_cons_succ]
  refine og_f rfl (by go_simp) fun K hK => ?_
  refine wp_copy_tab (.tmp 55) (.tmp 56) 93 93 rfl 78 undW sizeW b F (8192 - F) (8192 - F) ⟨w.heap.size, 0, none⟩ 8 8 rfl rfl 87 8211 (mc (loaded 3 X)) HM4.out 8 (by have := HF.out; omega) (fun j => .int .u64 (f j : Int)) (fun j hj => by rw [add_at, Nat.zero_add]; exact H84.out.cell j hj) (by have := HF.out; omega) (fun _ => rfl) ?_
  refine hK _ _ trivial ?_
  clear hK K
  try simp only [Act.put, List.setIfInBounds_toArray, List.set_cons_zero, List.set_cons_succ]
  refine og_done (NoPanic.normal ?_)
  have HM5 : Hid (IsMac (y4.setRow b (tab 8211 (splv (mc (loaded 3 X)) F 8 fun j => .int .u64 (f j : Int)))) b (exL (loaded 3 X) F 8 f)) := Lib.hid ((IsTab.row (f := mc (loaded 3 X)) HM4.out).cong fun i hi => mc_exL _ F f HF.out.2.1.2 i hi)
  have HK5 : Hid (Kept (fun k => k = b) y4 (y4.setRow b (tab 8211 (splv (mc (loaded 3 X)) F 8 fun j => .int .u64 (f j : Int))))) := Lib.hid ⟨by simp, by simp, by simp, by simp, fun k _ hk => setRow_other _ _ _ _ hk⟩
  clear HM3 HM4
  generalize y4.setRow b (tab 8211 (splv (mc (loaded 3 X)) F 8 fun j => .int .u64 (f j : Int))) = y5 at *
  go_upto_region 9 with (fail)
  have HM5 := Lib.hid (HM5.out.kept (Wt.kept_drew y5) id)
  have HK5 := Lib.hid HK5.out.drew
  refine wp_region_oz (fun _ : World => True) 17 (.take 0 (.take 1 (.take 2 (.take 3 (.take 4 (.take 5 (.take 6 (.take 7 (.take 8 (.take 10 (.take 11 (.free 14 (.free 15 (.one 9 (.take 12 (.one 13 (.take 16 (.one 17 .done)))))))))))))))))) (by kernel_rfl) (by kernel_rfl) trivial ?_
  generalize y5.drew = y5 at *
  refine oz_tk (some 58) (.pointer (some ⟨b, 0, none⟩)) rfl rfl (by go_simp) (fun _ _ => by simp [execOp, go_sem]) ?_
  simp only [Act.put, List.setIfInBounds_toArray, List.set_cons_zero, List.set_cons_succ]
  refine oz_tk (some 59) (.pointer (some ⟨b, 0, none⟩)) rfl rfl (by go_simp) (fun _ _ => by simp [execOp, go_sem]) ?_
  simp only [Act.put, List.setIfInBounds_toArray, List.set_cons_zero, List.set_cons_succ]
  refine oz_tk (some 60) (.pointer (some ⟨b, 0, none⟩)) rfl rfl (by go_simp) (fun _ _ => by simp [execOp, go_sem]) ?_
  simp only [Act.put, List.setIfInBounds_toArray, List.set_cons_zero, List.set_cons_succ]
  refine oz_tk (some 61) (.int .u64 F) rfl rfl (by go_simp) (fun _ _ => by simp [execOp, go_sem]) ?_
  simp only [Act.put, List.setIfInBounds_toArray, List.set_cons_zero, List.set_cons_succ]
  refine oz_tk (some 62) (.int .u64 D) rfl rfl (by go_simp) (fun _ _ => by simp [execOp, go_sem]) ?_
  simp only [Act.put, List.setIfInBounds_toArray, List.set_cons_zero, List.set_cons_succ]
  refine oz_tk (some 63) (.int .u64 B) rfl rfl (by go_simp) (fun _ _ => by simp [execOp, go_sem]) ?_
  simp only [Act.put, List.setIfInBounds_toArray, List.set_cons_zero, List.set_cons_succ]
  refine oz_tk (some 64) (.pointer (some ⟨b, 0, none⟩)) rfl rfl (by go_simp) (fun _ _ => by simp [execOp, go_sem]) ?_
  simp only [Act.put, List.setIfInBounds_toArray, List.set_cons_zero, List.set_cons_succ]
  refine oz_tk (some 65) (.pointer (some ⟨b, 8192, none⟩)) rfl rfl (by go_simp) (fun _ _ => by simp [execOp, go_sem]) ?_
  simp only [Act.put, List.setIfInBounds_toArray, List.set_cons_zero, List.set_cons_succ]
  refine oz_tk (some 66) (.pointer (some ⟨b, 8193, none⟩)) rfl rfl (by go_simp) (fun _ _ => by simp [execOp, go_sem, Result.andThen, Tryd.underlying85]) ?_
  simp only [Act.put, List.setIfInBounds_toArray, List.set_cons_zero, List.set_cons_succ]
  refine oz_tk (some 67) (.pointer (some ⟨b, 0, none⟩)) rfl rfl (by go_simp) (fun _ _ => by simp [execOp, go_sem]) ?_
  simp only [Act.put, List.setIfInBounds_toArray, List.set_cons_zero, List.set_cons_succ]
  refine oz_tk (some 68) (.pointer (some ⟨b, 8192, none⟩)) rfl rfl (by go_simp) (fun _ _ => by simp [execOp, go_sem]) ?_
  simp only [Act.put, List.setIfInBounds_toArray, List.set_cons_zero, List.set_cons_succ]
  refine oz_fr (some 70) (.pointer (some ⟨b, 0, none⟩)) rfl rfl (by go_simp) (fun _ => by simp [execOp, go_sem]) ?_
  simp only [Act.put, List.setIfInBounds_toArray, List.set_cons_zero, List.set_cons_succ]
  refine oz_fr (some 71) (.pointer (some ⟨b, 8192, none⟩)) rfl rfl (by go_simp) (fun _ => by simp [execOp, go_sem]) ?_
  simp only [Act.put, List.setIfInBounds_toArray, List.set_cons_zero, List.set_cons_succ]
  have kd : y5.cell? ⟨b, 8193, none⟩ = some (.int .u64 (((exL (loaded 3 X) F 8 f).reg 1 : Nat) : Int)) := HM5.out.reg (p := 1) (by decide)
  have fd := HM5.out.fz 8193
  have HM6 : Hid (IsMac (y5.setCell ⟨b, 8193, none⟩ (.int .u64 (F : Int))) b (setR (exL (loaded 3 X) F 8 f) 1 F)) := Lib.hid (HM5.out.setReg (d := 1) (by decide) F)
  have HK6 := Lib.hid (kept_set (S := fun k => k = b) HK5.out b 8193 rfl (.int .u64 (F : Int)))
  refine oz_f rfl (by go_simp) fun K hK => ?_
  go_simp
  refine hK _ _ trivial ?_
  clear hK K kd fd HM5 HK5
  try simp only [Act.put, List.setIfInBounds_toArray, List.set_cons_zero, List.set_cons_succ]
  generalize y5.setCell ⟨b, 8193, none⟩ (.int .u64 (F : Int)) = y6 at *
  have HM5 := Lib.hid HM6.out
  have HK5 := Lib.hid HK6.out
  clear HM6 HK6
  refine oz_tk (some 69) (.pointer (some ⟨b, 8194, none⟩)) rfl rfl (by go_simp) (fun _ _ => by simp [execOp, go_sem, Result.andThen, Tryd.underlying85]) ?_
  simp only [Act.put, List.setIfInBounds_toArray, List.set_cons_zero, List.set_cons_succ]
  have kd : y6.cell? ⟨b, 8194, none⟩ = some (.int .u64 (((setR (exL (loaded 3 X) F 8 f) 1 F).reg 2 : Nat) : Int)) := HM5.out.reg (p := 2) (by decide)
  have fd := HM5.out.fz 8194
  have HM6 : Hid (IsMac (y6.setCell ⟨b, 8194, none⟩ (.int .u64 (D : Int))) b (setR (setR (exL (loaded 3 X) F 8 f) 1 F) 2 D)) := Lib.hid (HM5.out.setReg (d := 2) (by decide) D)
  have HK6 := Lib.hid (kept_set (S := fun k => k = b) HK5.out b 8194 rfl (.int .u64 (D : Int)))
  refine oz_f rfl (by go_simp) fun K hK => ?_
  go_simp
  refine hK _ _ trivial ?_
  clear hK K kd fd HM5 HK5
  try simp only [Act.put, List.setIfInBounds_toArray, List.set_cons_zero, List.set_cons_succ]
  generalize y6.setCell ⟨b, 8194, none⟩ (.int .u64 (D : Int)) = y7 at *
  have HM5 := Lib.hid HM6.out
  have HK5 := Lib.hid HK6.out
  clear HM6 HK6
  refine oz_tk (some 72) (.pointer (some ⟨b, 8195, none⟩)) rfl rfl (by go_simp) (fun _ _ => by simp [execOp, go_sem, Result.andThen, Tryd.underlying85]) ?_
  simp only [Act.put, List.setIfInBounds_toArray, List.set_cons_zero, List.set_cons_succ]
  have kd : y7.cell? ⟨b, 8195, none⟩ = some (.int .u64 (((setR (setR (exL (loaded 3 X) F 8 f) 1 F) 2 D).reg 3 : Nat) : Int)) := HM5.out.reg (p := 3) (by decide)
  have fd := HM5.out.fz 8195
  have HM6 : Hid (IsMac (y7.setCell ⟨b, 8195, none⟩ (.int .u64 (B : Int))) b (oA X f F D B)) := Lib.hid (HM5.out.setReg (d := 3) (by decide) B)
  have HK6 := Lib.hid (kept_set (S := fun k => k = b) HK5.out b 8195 rfl (.int .u64 (B : Int)))
  refine oz_z rfl (by go_simp) fun K hK => ?_
  go_simp
  refine hK _ _ ?_
  clear hK K kd fd HM5 HK5
  try simp only [Act.put, List.setIfInBounds_toArray, List.set_cons_zero, List.set_cons_succ]
  generalize y7.setCell ⟨b, 8195, none⟩ (.int .u64 (B : Int)) = y8 at *
  have HM5 := Lib.hid HM6.out
  have HK5 := Lib.hid HK6.out
  clear HM6 HK6
  refine oz_done (NoPanic.normal ?_)
  have HO : Hid (Or yb b s kb fb (oA X f F D B) Wt.nw y8) := by
    have h1 := HBK.out
    have hb1 := HS3.out.2.1 kb (.inr (.inl rfl))
    have hb2 := HS3.out.2.1 fb (.inr (.inr rfl))
    have hz := HK5.out.size
    have hz5 := HS5.out
    have hT : ∀ j, T j → y.heap.size ≤ j ∧ j < y3.heap.size := fun j hj => ⟨HS3.out.2.1 j (.inl hj), HS3.out.2.2 j hj⟩
    exact Lib.hid ⟨HM5.out, ⟨T, HS4.out.kept HK5.out (fun j hj e => by have := hT j hj; omega) (by omega) (by omega), fun j hj => by have := hT j hj; omega⟩, Wt.below_of HB4.out HK5.out fun j _ hj => by omega, HTB.out, by omega⟩
  clear HM5 HK5 HB4 HS4 H84 HS3 HB3
  obtain ⟨T8, hs8, hT8⟩ := HO.out.st
  have HL := Lib.hid (Wt.len_nw T8 s kb fb y8 hs8)
  clear hs8 hT8
  obtain ⟨S0, hS0⟩ : ∃ S0, Wt.nw = S0 := ⟨_, rfl⟩
  have HS0 : Hid (Wt.Apart S0.pres ∧ S0.asked.length < 1073741824 ∧ S0.pres.length = 16) := by
    rw [← hS0, Wt.nw_pres]
    exact Lib.hid ⟨Wt.zs_apart 16, by simp only [Wt.nw]; decide, Wt.zs_len⟩
  rw [hS0] at HO
  clear hS0
  have HR := Lib.hid (oracle_run yb y8 b s kb fb S0 HS0.out.1 HS0.out.2.1 X f F D B HF.out.1 HWA.out HF.out.2.1 HF.out.2.2.1 HF.out.2.2.2 (by have := HAP.out; omega) HW0.out HW1.out HW2.out HO.out)
  go_upto_region 12 with (first
    | (go_at_call 29; (with_reducible refine HL.out.mono ?_); rintro e ya ⟨he, hw⟩; obtain rfl : e = _ := he; subst hw)
    | (go_at_call 37; (with_reducible refine HR.out.mono ?_); rintro e y9 ⟨he, ho⟩; obtain rfl : e = _ := he; have HO9 := Lib.hid ho; clear ho HR))
  obtain ⟨T9, hs9, hT9⟩ := HO9.out.st
  have HL9 := Lib.hid (Wt.len_walk T9 s kb fb (oS S0 f 3) y9 hs9)
  have HL17 := Lib.hid (oS_len S0 f HS0.out.2.2)
  clear hs9 hT9 HL
  generalize hL : (oS S0 f 3).pres.length = L at *
  clear hL
  have kh : y9.cell? ⟨b, 8209, none⟩ = some (.bool true) := HO9.out.mac.halted
  have kx : y9.cell? ⟨b, 8210, none⟩ = some (.int .u64 ((0 : Nat) : Int)) := HO9.out.mac.exit
  have t17 : decide ((17 : Int) < (L : Int)) = false := by have := HL17.out; simp; omega
  have hl8 := load8 (HA.out.1.below HO9.out.below)
  rw [HFV.out] at hl8
  have HL8 := Lib.hid hl8
  clear hl8
  go_wp2_with (first
    | ((with_reducible refine wpList_loadE (P := Tryd.prog) (w := y9) (ty := 92) (x := .tmp 4) (p := .pointer (some ⟨w.heap.size, 0, none⟩)) (v := .agg fv) ?_ ?_ ?_ HL8.out ?_); (· exact rfl); (· exact rfl); (· exact rfl))
    | (go_at_call 29; (with_reducible refine HL9.out.mono ?_); rintro e ya ⟨he, hw⟩; obtain rfl : e = _ := he; subst hw))
  clear kh kx t17
  go_loopw [109] (fun ti y => ∃ i : Nat, i ≤ 8 ∧ ti = .int .i64 i ∧ Hid (y = y9)) (fun ti _ => 8 - (intOf ti).toNat)
  case atStart => exact ⟨0, Nat.zero_le _, rfl, Lib.hid rfl⟩
  case round =>
    obtain ⟨i, hi, rfl, hp⟩ := hrel
    obtain rfl : wr = y9 := hp.out
    by_cases hlt : (i : Int) < 8
    · obtain ⟨c, hc⟩ : ∃ c : Nat, B + i = c := ⟨_, rfl⟩
      have HI : Hid (i < 8 ∧ wrap64 ((i : Int) + 1) = ((i + 1 : Nat) : Int)) := Lib.hid ⟨by omega, by unfold wrap64; omega⟩
      have hb1 : IntKind.u64.wrap (i : Int) = (i : Int) := IntWalk.u64_in _ (by omega)
      have hb2 : IntKind.u64.wrap ((B : Int) + (i : Int)) = (c : Int) := by have := HF.out.2.2.2; rw [IntWalk.u64_in _ (by omega)]; omega
      have hb3 : (c : Int) < 8192 := by have := HF.out.2.2.2; omega
      have km : wr.cell? ⟨b, c, none⟩ = some (.int .u64 (f i : Int)) := by
        have h := HO9.out.mac.mem (p := c) (by omega)
        rw [← hc, oD_mem X f F D B i (by omega) HF.out.1] at h
        rw [← hc]; exact h
      clear hc
      have hix := idx8 f i (by omega) wr
      rw [HFV.out] at hix
      have hw1 := HI.out.2
      go_wp2_with (fail)
      go_roundw
      case rel => exact ⟨i + 1, HI.out.1, by go_num, Lib.hid trivial⟩
      case measure => have := HI.out.1; simp [intOf]; omega
    · obtain rfl : i = 8 := by omega
      go_wp2_with (fail)
      exact bodyPost_ret (v := .bool true) (by simp [results, Tryd.results9, go_sem]) rfl ⟨rfl, bl HA.out.2.1 HO9.out.below⟩
theorem in_mod {x m : Int} (h0 : 0 ≤ x) (hm : 0 < m) : ∃ F : Nat, 10 + x % m = (F : Int) ∧ 10 ≤ F ∧ (F : Int) < 10 + m := by
  have h1 := Int.emod_nonneg x (by omega : m ≠ 0)
  have h2 := Int.emod_lt_of_pos x hm
  exact ⟨(10 + x % m).toNat, by omega, by omega, by omega⟩
theorem cl1 : Tryd.prog.cellsOf 78 = 1 := by kernel_rfl
theorem cl8 : Tryd.prog.cellsOf 92 = 8 := by kernel_rfl
theorem wf64 {z : Int} (h : (Lit.int .u64 z).wf = true) : 0 ≤ z ∧ z ≤ 18446744073709551615 :=
  ⟨of_decide_eq_true (Bool.and_eq_true_iff.1 h).1, of_decide_eq_true (Bool.and_eq_true_iff.1 h).2⟩
set_option maxRecDepth 100000 in
theorem vmOracle_walk {H : Type} {enc : TypeId × Value → H} {base base' : Nat} {spare : Nat → Bool} {held : Bool} {w : World} (v0 : Value) (d0 : DataW H) (p0 : List MemPlace) (a1 a2 a3 : Int)
    (ok0 : Value.okWide Tryd.prog w .any base 92 v0) (k0 : DataW.Trod enc Tryd.prog w base' spare held 92 v0 d0 p0) (w1 : (Lit.int .u64 a1).wf = true) (w2 : (Lit.int .u64 a2).wf = true) (w3 : (Lit.int .u64 a3).wf = true) (ht : Laid.KTab w) :
    Calls Tryd.prog 9 #[v0, .int .u64 a1, .int .u64 a2, .int .u64 a3] w fun e w' => e = .returned (.bool true) ∧ Below w.heap.size w w' := by
  obtain ⟨f0, rfl, h0⟩ := Kc.arr_ints und8w Kc.undU64 cl1 cl8 ok0 k0
  have p1 := (wf64 w1).1
  have p2 := (wf64 w2).1
  have p3 := (wf64 w3).1
  have hf : ∀ i, (if i < 8 then (f0 i).toNat else 0) < 18446744073709551616 := fun i => by
    split
    · rename_i hi
      have h2 := (wf64 (h0 i hi)).2
      omega
    · decide
  have he : (tab 8 fun i => .int .u64 (f0 i)) = tab 8 fun i => .int .u64 (((if i < 8 then (f0 i).toNat else 0 : Nat) : Nat) : Int) := tab_cong fun i hi => by
    have h2 := (wf64 (h0 i hi)).1
    rw [if_pos hi]
    congr 1
    omega
  rw [he]
  obtain ⟨a1, rfl⟩ := Int.eq_ofNat_of_zero_le p1
  obtain ⟨a2, rfl⟩ := Int.eq_ofNat_of_zero_le p2
  obtain ⟨a3, rfl⟩ := Int.eq_ofNat_of_zero_le p3
  obtain ⟨F, e1, f1, g1⟩ := in_mod p1 (show (0 : Int) < 8174 by decide)
  obtain ⟨D, e2, f2, g2⟩ := in_mod p2 (show (0 : Int) < 8178 by decide)
  obtain ⟨B, e3, f3, g3⟩ := in_mod p3 (show (0 : Int) < 8174 by decide)
  by_cases h1 : F < D + 4
  · by_cases h2 : D < F + 8
    · exact vo_hit _ a1 a2 a3 F D B hf ⟨e1, e2, e3⟩ ⟨f1, by omega⟩ ⟨f2, by omega⟩ ⟨f3, by omega⟩ ⟨h1, h2⟩ w ht
    · exact vo_b _ a1 a2 a3 F D B hf ⟨e1, e2, e3⟩ ⟨f1, by omega⟩ ⟨f2, by omega⟩ ⟨f3, by omega⟩ ⟨h1, by omega⟩ w ht
  · exact vo_a _ a1 a2 a3 F D B hf ⟨e1, e2, e3⟩ ⟨f1, by omega⟩ ⟨f2, by omega⟩ ⟨f3, by omega⟩ (by omega) w ht
end Vm
end Go.Proofs.YtdmffnjbholkkaaDoor
