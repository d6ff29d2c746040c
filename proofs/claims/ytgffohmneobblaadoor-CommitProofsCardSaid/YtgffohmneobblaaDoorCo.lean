/-
  Layer 11: CommitOrder. Written by genCo.py. Own work.
-/
import Derived.Test.YtgffohmneobblaaDoorCw
import Derived.Test.YtgffohmneobblaaDoorOpn
namespace Go.Proofs.YtgffohmneobblaaDoor
open Go.RowKit Go.ChangeShapes
set_option linter.unusedVariables false
set_option linter.unusedSimpArgs false
namespace Co
open Kc Mk Vm
theorem mg_at (M : Mac) {k : Nat} (h : k < 8192) : mg M k = lfX (M.mem k) := ext_in _ h
theorem put_mg (M : Mac) {i : Nat} (hi : i < 8192) (v : Nat) : put (mg M) i (lfX v) = mg (setM M i v) := by
  funext k
  unfold put mg ext mlf setM
  by_cases e : k = i
  · subst e; simp [hi]
  · simp [e]
theorem own_fold (M : Mac) {i : Nat} (hi : i < 8192) : fold i (lfX (M.mem i)) (sib (mg M) i) 13 = mroot M := by
  have h := fold_own (g := mg M) (i := i) (d := 13) (p := sib (mg M) i) (by omega) (fun _ _ => rfl)
  rw [mg_at M hi] at h; exact h
theorem other_fold (M : Mac) {i : Nat} (hi : i < 8192) (v : Nat) : fold i (lfX v) (sib (mg M) i) 13 = mroot (setM M i v) := by
  have h := fold_other (g := mg M) (i := i) (d := 13) (p := sib (mg M) i) (lfX v) (by omega) (fun _ _ => rfl)
  rw [put_mg M hi] at h; exact h
theorem same_comm (x y : Hx) : same32 x y = same32 y x := by
  cases h : same32 x y with
  | true => exact ((same32_iff _ _).2 fun i hi => ((same32_iff _ _).1 h i hi).symm).symm
  | false =>
    cases h2 : same32 y x with
    | false => rfl
    | true =>
      rw [(same32_iff _ _).2 fun i hi => ((same32_iff _ _).1 h2 i hi).symm] at h
      exact h.symm
theorem mem_setM {M : Mac} (h : ∀ i, M.mem i < 18446744073709551616) (p : Nat) {v : Nat} (hv : v < 18446744073709551616) : ∀ i, (setM M p v).mem i < 18446744073709551616 := fun i => by
  show (if i = p then v else M.mem i) < _
  split
  · exact hv
  · exact h i
theorem ixC0 (a b c d : Value) (w : World) : (Instr.index 65 (.agg #[a, b, c, d]) (.int .i64 0)).run Tryd.prog w = .ok (.agg #[a, b]) w := by kernel_rfl
theorem ixC1 (a b c d : Value) (w : World) : (Instr.index 65 (.agg #[a, b, c, d]) (.int .i64 1)).run Tryd.prog w = .ok (.agg #[c, d]) w := by kernel_rfl
/-- What the closure's loop keeps. -/
structure Oc (W : World) (x : Nat) (M : Mac) (y : World) : Prop where
  mac : IsMac y x M
  below : Below W.heap.size W y
  ge : W.heap.size ≤ x
theorem Oc.next {W y y' : World} {x : Nat} {M : Mac} (h : Oc W x M y) (hb : Below y.heap.size y y') : Oc W x M y' := ⟨h.mac.below hb, bl h.below hb, h.ge⟩
set_option maxHeartbeats 8000000 in
set_option maxRecDepth 100000 in
theorem order1_walk (w : World) (b q7 q9 I X1 V1 X2 V2 : Nat) (M : Mac) (hm : IsMac w b M) (h7 : w.cell? ⟨q7, 0, none⟩ = some (.pointer (some ⟨b, 0, none⟩))) (h9 : w.cell? ⟨q9, 0, none⟩ = some (.int .u64 I)) (hI : I < 8192) (hok : ∀ i, M.mem i < 18446744073709551616) (hv1 : V1 < 18446744073709551616) (hv2 : V2 < 18446744073709551616) (ht : Laid.KTab w) (A1 A2 : Nat) (e1 : A1 = X1 % 8192) (e2 : A2 = X2 % 8192) :
    Calls Tryd.prog 23 #[.agg #[.int .u64 X1, .int .u64 V1, .int .u64 X2, .int .u64 V2], .pointer (some ⟨q7, 0, none⟩), .pointer (some ⟨q9, 0, none⟩)] w fun e w' => e = .returned (.tuple #[.int .u64 ((setM (setM M A1 V1) A2 V2).mem I), .bool true]) ∧ Below w.heap.size w w' := by
  have HT := Lib.hid ht
  have HX1 : Hid ((X1 : Int).tmod 8192 = (A1 : Int) ∧ A1 < 8192 ∧ V1 < 18446744073709551616 ∧ ∀ i, M.mem i < 18446744073709551616) := Lib.hid ⟨by rw [Int.tmod_eq_emod_of_nonneg (by omega)]; omega, by omega, hv1, hok⟩
  have HX2 : Hid ((X2 : Int).tmod 8192 = (A2 : Int) ∧ A2 < 8192 ∧ V2 < 18446744073709551616 ∧ ∀ i, (setM M A1 V1).mem i < 18446744073709551616) := Lib.hid ⟨by rw [Int.tmod_eq_emod_of_nonneg (by omega)]; omega, by omega, hv2, mem_setM hok A1 hv1⟩
  have H9 := Lib.hid (And.intro h9 hI)
  have HM := Lib.hid hm
  have H7 := Lib.hid h7
  clear hv1 hv2 hok ht e1 e2 h9 hI hm h7
  have z2 := zeroHash
  have HBH := Lib.hid (fun u : World => buildH0 u)
  generalize hz : (tab 32 fun _ => bv 0#8) = zh at *
  have HZ := Lib.hid hz
  clear hz
  have HZI : Hid ((Tryd.prog.info? 42).map (·.size) = some zh.size ∧ zh.all (·.oneCell') = true ∧ zh.size = 32) := Lib.hid ⟨by rw [← HZ.out]; exact infH _, by rw [← HZ.out]; exact one_bv _ _, by rw [← HZ.out, tab_size]⟩
  go_enter Tryd.func23, Tryd.ntmps23
  go_upto_region 1 with (fail)
  have HA : Hid (Below w.heap.size w (w.alloc (.cells #[.int .u64 X1, .int .u64 V1, .int .u64 X2, .int .u64 V2] 65)) ∧ (w.alloc (.cells #[.int .u64 X1, .int .u64 V1, .int .u64 X2, .int .u64 V2] 65)).heap[w.heap.size]? = some (.cells #[.int .u64 X1, .int .u64 V1, .int .u64 X2, .int .u64 V2] 65 (0, 0))) := Lib.hid ⟨ba _ _, heap_alloc_new w _⟩
  have kb := keep1 HA.out.1 H7.out
  generalize w.alloc (.cells #[.int .u64 X1, .int .u64 V1, .int .u64 X2, .int .u64 V2] 65) = y0 at *
  have HCP := Lib.hid (Copy_walk y0 b M (HM.out.below HA.out.1))
  have c0 := cell_of_row y0 w.heap.size 0 _ _ _ HA.out.2
  have c1 := cell_of_row y0 w.heap.size 1 _ _ _ HA.out.2
  have c2 := cell_of_row y0 w.heap.size 2 _ _ _ HA.out.2
  have c3 := cell_of_row y0 w.heap.size 3 _ _ _ HA.out.2
  simp only [List.getElem?_toArray, List.getElem?_cons_zero, List.getElem?_cons_succ] at c0 c1 c2 c3
  generalize hq : w.heap.size = q3 at *
  have HQ := Lib.hid hq
  clear hq
  have HC := Lib.hid (And.intro c0 (And.intro c1 (And.intro c2 c3)))
  clear c0 c1 c2 c3
  go_upto_region 2 with (go_at_call 15; (with_reducible refine HCP.out.mono ?_); rintro e y1 ⟨x, he, hm, hge, hb⟩; obtain rfl : e = _ := he; have H0 : Hid (Oc w x M y1 ∧ y1.cell? ⟨q3, 0, none⟩ = some (.int .u64 X1) ∧ y1.cell? ⟨q3, 1, none⟩ = some (.int .u64 V1) ∧ y1.cell? ⟨q3, 2, none⟩ = some (.int .u64 X2) ∧ y1.cell? ⟨q3, 3, none⟩ = some (.int .u64 V2)) := Lib.hid ⟨⟨hm, HQ.out ▸ HA.out.1.trans (hb.mono (by have := HA.out.1.size; have := HQ.out; omega)), by have := HA.out.1.size; have := HQ.out; omega⟩, keep1 hb HC.out.1, keep1 hb HC.out.2.1, keep1 hb HC.out.2.2.1, keep1 hb HC.out.2.2.2⟩; clear hm hge hb HCP kb)
  clear HC HA
  have c0 := H0.out.2.1
  have c1 := H0.out.2.2.1
  have c2 := H0.out.2.2.2.1
  have c3 := H0.out.2.2.2.2
  go_upto_region 3 with (fail)
  clear c0 c1 c2 c3
  have H0 := Lib.hid H0.out.1
  go_loopw [20] (fun t y => ∃ j : Nat, t = .int .i64 j ∧ Hid ((j = 0 ∧ Oc w x M y) ∨ (j = 1 ∧ Oc w x (setM M A1 V1) y) ∨ (j = 2 ∧ Oc w x (setM (setM M A1 V1) A2 V2) y))) (fun t _ => 2 - (intOf t).toNat)
  case atStart => exact ⟨0, rfl, Lib.hid (.inl ⟨rfl, H0.out⟩)⟩
  case round =>
    obtain ⟨j, rfl, hp⟩ := hrel
    clear H0
    rcases hp.out with ⟨rfl, ho⟩ | ⟨rfl, ho⟩ | ⟨rfl, ho⟩
    · have HP := Lib.hid ho
      have HX := HX1
      have HXQ : Hid (x ≠ wr.heap.size) := Lib.hid (by have := ho.mac.lt; omega)
      clear hp ho
      rw [show ((0 : Nat) : Int) = 0 from rfl]
      have ix := fun u => ixC0 (.int .u64 X1) (.int .u64 V1) (.int .u64 X2) (.int .u64 V2) u
      have HNW := Lib.hid (Box2.new wr 61 (.int .u64 (X1 : Nat)) (.int .u64 (V1 : Nat)))
      have H1 := Lib.hid (HP.out.next (ba wr (.cells #[.int .u64 (X1 : Nat), .int .u64 (V1 : Nat)] 61)))
      have hmod := HX.out.1
      go_upto_region 5 with (fail)
      generalize wr.alloc (.cells #[.int .u64 (X1 : Nat), .int .u64 (V1 : Nat)] 61) = y1 at *
      generalize wr.heap.size = q8 at *
      have k0 := HNW.out.k0
      have HPR := Lib.hid (Prove_ok y1 x A1 M H1.out.mac HX.out.2.2.2 HX.out.2.1 (ktab_below HT.out H1.out.below))
      go_upto_region 6 with (first
        | (go_at_call 20; (refine HPR.out.mono ?_); rintro e y2 ⟨a, c, he, hc, hcm, hna, hrow, hb⟩; obtain rfl : e = _ := he; obtain ⟨a9, c9, ev, hsa, _⟩ := hs_of hrow; obtain ⟨rfl, _, rfl⟩ := Value.slice.inj ev; have H2 : Hid (Oc w x M y2 ∧ Box2 y2 q8 61 (.int .u64 (X1 : Nat)) (.int .u64 (V1 : Nat)) ∧ IsHs y2 a 13 (sib (mg M) A1) ∧ 13 ≤ c) := Lib.hid ⟨H1.out.next hb, HNW.out.below hb, hsa, hc⟩; clear hb hc hcm hna hrow hsa HPR k0)
        | ((with_reducible refine wpList_store_row (P := Tryd.prog) (w := y2.alloc (.cells #[.int .u64 0, .slice none 0 0] 54)) ?_ 54 (.tmp 9) (.tmp 29) ?_ y2.heap.size #[.int .u64 (M.mem A1), .slice a 13 c] ?_ ?_ 54 #[.int .u64 0, .slice none 0 0] (heap_alloc_last y2 _) infPt ?_ rfl ?_); (· exact rfl); (· exact rfl); (· exact rfl); (· exact rfl); (· exact rfl); rw [World.setRow_alloc_new]; simp only [Act.put]))
      clear hmod
      have HB9 := Lib.hid (Box2.new y2 54 (.int .u64 (M.mem A1)) (.slice a 13 c))
      have H3 : Hid (Oc w x M (y2.alloc (.cells #[.int .u64 (M.mem A1), .slice a 13 c] 54)) ∧ Box2 (y2.alloc (.cells #[.int .u64 (M.mem A1), .slice a 13 c] 54)) q8 61 (.int .u64 (X1 : Nat)) (.int .u64 (V1 : Nat)) ∧ IsHs (y2.alloc (.cells #[.int .u64 (M.mem A1), .slice a 13 c] 54)) a 13 (sib (mg M) A1) ∧ 13 ≤ c) := Lib.hid ⟨H2.out.1.next (ba _ _), H2.out.2.1.below (ba _ _), H2.out.2.2.1.below (ba _ _), H2.out.2.2.2⟩
      clear H1 H2 HNW
      generalize y2.alloc (.cells #[.int .u64 (M.mem A1), .slice a 13 c] 54) = y3 at *
      generalize y2.heap.size = q9p at *
      have HRO := Lib.hid (Root_walk y3 x M H3.out.1.mac HX.out.2.2.2 (ktab_below HT.out H3.out.1.below))
      go_upto_region 7 with (first
        | (go_at_call 14; (with_reducible refine HRO.out.mono ?_); rintro e y4 ⟨he, hb⟩; obtain rfl : e = _ := he; have H4 : Hid (Oc w x M y4 ∧ Box2 y4 q8 61 (.int .u64 (X1 : Nat)) (.int .u64 (V1 : Nat)) ∧ IsHs y4 a 13 (sib (mg M) A1) ∧ 13 ≤ c ∧ Box2 y4 q9p 54 (.int .u64 (M.mem A1)) (.slice a 13 c)) := Lib.hid ⟨H3.out.1.next hb, H3.out.2.1.below hb, H3.out.2.2.1.below hb, H3.out.2.2.2, HB9.out.below hb⟩; clear hb HRO)
        | ((with_reducible refine wpList_store_row (P := Tryd.prog) (w := y4.alloc (.cells zh 42)) ?_ 42 (.tmp 11) (.tmp 34) ?_ y4.heap.size (tab 32 fun i => bv (mroot M i)) ?_ ?_ 42 zh (heap_alloc_last y4 _) (infH _) ?_ (one_bv _ _) ?_); (· exact rfl); (· exact rfl); (· exact rfl); (· exact rfl); (· rw [HZI.out.2.2, tab_size]); rw [World.setRow_alloc_new]; simp only [Act.put]))
      have H5 : Hid ((IsTab (y4.alloc (.cells (tab 32 fun i => bv (mroot M i)) 42)) y4.heap.size 42 32 fun i => bv (mroot M i)) ∧ Below y4.heap.size y4 (y4.alloc (.cells (tab 32 fun i => bv (mroot M i)) 42))) := Lib.hid ⟨IsTab.new y4 _ 32 _, ba _ _⟩
      clear H3 HB9
      have HQ4 : Hid (Below y4.heap.size y4 (y4.alloc (.cells (tab 32 fun i => bv (mroot M i)) 42))) := Lib.hid (ba _ _)
      generalize y4.alloc (.cells (tab 32 fun i => bv (mroot M i)) 42) = y5 at *
      have H6 : Hid (Oc w x M y5 ∧ Box2 y5 q8 61 (.int .u64 (X1 : Nat)) (.int .u64 (V1 : Nat)) ∧ IsHs y5 a 13 (sib (mg M) A1) ∧ 13 ≤ c ∧ Box2 y5 q9p 54 (.int .u64 (M.mem A1)) (.slice a 13 c)) := Lib.hid ⟨H4.out.1.next HQ4.out, H4.out.2.1.below HQ4.out, H4.out.2.2.1.below HQ4.out, H4.out.2.2.2.1, H4.out.2.2.2.2.below HQ4.out⟩
      clear H4 HQ4
      generalize y4.heap.size = q11 at *
      have k0 := H6.out.2.1.k0
      have k1 := H6.out.2.1.k1
      have hmod := HX.out.1
      have HL11 := Lib.hid (load32h H5.out.1)
      have HL9 := Lib.hid (loadPt H6.out.2.2.2.2)
      have hwr := Write_ok y5 (mroot M) A1 (M.mem A1) V1 13 c a (sib (mg M) A1) H6.out.2.2.1 H6.out.2.2.2.1 HX.out.2.1 (HX.out.2.2.2 _) HX.out.2.2.1 (ktab_below HT.out H6.out.1.below) rfl (by rw [own_fold M HX.out.2.1]; exact same_refl _)
      rw [other_fold M HX.out.2.1] at hwr
      have HWR := Lib.hid hwr
      clear hwr
      go_upto_region 8 with (first
        | ((with_reducible refine wpList_loadE (P := Tryd.prog) (w := y5) (ty := 42) (x := .tmp 11) (p := .pointer (some ⟨q11, 0, none⟩)) (v := dv (mroot M)) ?_ ?_ ?_ HL11.out ?_); (· exact rfl); (· exact rfl); (· exact rfl))
        | ((with_reducible refine wpList_loadE (P := Tryd.prog) (w := y5) (ty := 54) (x := .tmp 9) (p := .pointer (some ⟨q9p, 0, none⟩)) (v := .agg #[.int .u64 (M.mem A1), .slice a 13 c]) ?_ ?_ ?_ HL9.out ?_); (· exact rfl); (· exact rfl); (· exact rfl))
        | (go_at_call 21; (refine HWR.out.mono ?_); rintro e y6 ⟨he, hb⟩; obtain rfl : e = _ := he; have H7 : Hid (Oc w x M y6 ∧ Box2 y6 q8 61 (.int .u64 (X1 : Nat)) (.int .u64 (V1 : Nat))) := Lib.hid ⟨H6.out.1.next hb, H6.out.2.1.below hb⟩; clear hb HWR k0 k1)
        | ((with_reducible refine wpList_store_row (P := Tryd.prog) (w := y6.alloc (.cells zh 42)) ?_ 42 (.tmp 13) (.tmp 45) ?_ y6.heap.size (tab 32 fun i => bv (mroot (setM M A1 V1) i)) ?_ ?_ 42 zh (heap_alloc_last y6 _) (infH _) ?_ (one_bv _ _) ?_); (· exact rfl); (· exact rfl); (· exact rfl); (· exact rfl); (· rw [HZI.out.2.2, tab_size]); rw [World.setRow_alloc_new]; simp only [Act.put]))
      clear hmod HL11 HL9 H5 H6
      have H8 : Hid ((IsTab (y6.alloc (.cells (tab 32 fun i => bv (mroot (setM M A1 V1) i)) 42)) y6.heap.size 42 32 fun i => bv (mroot (setM M A1 V1) i)) ∧ Oc w x M (y6.alloc (.cells (tab 32 fun i => bv (mroot (setM M A1 V1) i)) 42)) ∧ Box2 (y6.alloc (.cells (tab 32 fun i => bv (mroot (setM M A1 V1) i)) 42)) q8 61 (.int .u64 (X1 : Nat)) (.int .u64 (V1 : Nat))) := Lib.hid ⟨IsTab.new y6 _ 32 _, H7.out.1.next (ba _ _), H7.out.2.below (ba _ _)⟩
      have HNX : Hid (x ≠ y6.heap.size ∧ x ≠ q8) := Lib.hid ⟨by have := H7.out.1.mac.lt; omega, HXQ.out⟩
      clear H7
      generalize y6.alloc (.cells (tab 32 fun i => bv (mroot (setM M A1 V1) i)) 42) = y7 at *
      generalize y6.heap.size = q13 at *
      have H8 : Hid ((IsTab y7.drew q13 42 32 fun i => bv (mroot (setM M A1 V1) i)) ∧ Oc w x M y7.drew ∧ Box2 y7.drew q8 61 (.int .u64 (X1 : Nat)) (.int .u64 (V1 : Nat))) := Lib.hid ⟨H8.out.1, H8.out.2.1.next (Below.refl _ _).drew, H8.out.2.2⟩
      refine wp_region_og (fun z : World => Box2 z q8 61 (.int .u64 (X1 : Nat)) (.int .u64 (V1 : Nat))) (.take 0 (.take 1 (.take 2 (.take 3 (.take 4 (.take 5 (.take 6 (.take 7 (.take 8 (.one 9 .done)))))))))) (by kernel_rfl) (by kernel_rfl) H8.out.2.2 ?_
      generalize y7.drew = z1 at *
      refine og_tk (some 47) (.pointer (some ⟨x, 0, none⟩)) rfl rfl (by go_simp) (fun _ _ => by simp [execOp, go_sem]) ?_
      simp only [Act.put, pS]
      refine og_tk (some 48) (.pointer (some ⟨q8, 0, none⟩)) rfl rfl (by go_simp) (fun _ _ => by simp [execOp, go_sem]) ?_
      simp only [Act.put, pS]
      refine og_ld (some 49) 33 (.tmp 48) (.pointer (some ⟨q8, 0, none⟩)) (.int .u64 (X1 : Nat)) rfl rfl (by go_simp) rfl rfl (fun y hy => by have h := hy.k0; simp [Instr.loadAt, go_sem, h, Tryd.underlying33]) ?_
      simp only [Act.put, pS]
      refine og_tk (some 50) (.int .u64 (A1 : Nat)) rfl rfl (by go_simp) (fun y hy => by have h := HX.out.1; simp [execOp, go_sem, h, Result.andThen]) ?_
      simp only [Act.put, pS]
      refine og_tk (some 51) (.pointer (some ⟨q8, 1, none⟩)) rfl rfl (by go_simp) (fun _ _ => by simp [execOp, go_sem]) ?_
      simp only [Act.put, pS]
      refine og_ld (some 52) 33 (.tmp 51) (.pointer (some ⟨q8, 1, none⟩)) (.int .u64 (V1 : Nat)) rfl rfl (by go_simp) rfl rfl (fun y hy => by have h := hy.k1; simp [Instr.loadAt, go_sem, h, Tryd.underlying33]) ?_
      simp only [Act.put, pS]
      refine og_tk (some 53) (.pointer (some ⟨x, 0, none⟩)) rfl rfl (by go_simp) (fun _ _ => by simp [execOp, go_sem]) ?_
      simp only [Act.put, pS]
      refine og_tk (some 54) (.pointer (some ⟨x, 0, none⟩)) rfl rfl (by go_simp) (fun _ _ => by simp [execOp, go_sem]) ?_
      simp only [Act.put, pS]
      refine og_tk (some 55) (.pointer (some ⟨x, A1, none⟩)) rfl rfl (by go_simp) (fun y hy => by have h := ixMemU x A1 HX.out.2.1 y; simp [execOp, go_sem, h, Result.andThen]) ?_
      simp only [Act.put, pS]
      have kd := H8.out.2.1.mac.mem HX.out.2.1
      have fd := H8.out.2.1.mac.fz A1
      have H9 : Hid ((IsTab (z1.setCell ⟨x, A1, none⟩ (.int .u64 (V1 : Nat))) q13 42 32 fun i => bv (mroot (setM M A1 V1) i)) ∧ Oc w x (setM M A1 V1) (z1.setCell ⟨x, A1, none⟩ (.int .u64 (V1 : Nat)))) := Lib.hid ⟨IsTab.keep H8.out.1 (Ne.symm HNX.out.1), ⟨H8.out.2.1.mac.setMem HX.out.2.1 V1, H8.out.2.1.below.setCell H8.out.2.1.ge _, H8.out.2.1.ge⟩⟩
      refine og_f rfl (by go_simp) fun K hK => ?_
      go_simp
      refine hK _ _ (IsTab.keep H8.out.2.2 (Ne.symm HNX.out.2)) ?_
      clear hK K kd fd H8
      try simp only [List.getElem_toArray, List.getElem_cons_succ, List.getElem_cons_zero, Act.put, pS]
      refine og_done (NoPanic.normal ?_)
      generalize z1.setCell ⟨x, A1, none⟩ (.int .u64 (V1 : Nat)) = z2 at *
      have HOK2 := Lib.hid (mem_setM HX.out.2.2.2 A1 HX.out.2.2.1)
      have HRO := Lib.hid (Root_walk z2 x (setM M A1 V1) H9.out.2.mac HOK2.out (ktab_below HT.out H9.out.2.below))
      go_upto_region 10 with (first
        | (go_at_call 14; (with_reducible refine HRO.out.mono ?_); rintro e y8 ⟨he, hb⟩; obtain rfl : e = _ := he; have H10 : Hid ((IsTab y8 q13 42 32 fun i => bv (mroot (setM M A1 V1) i)) ∧ Oc w x (setM M A1 V1) y8) := Lib.hid ⟨H9.out.1.below hb, H9.out.2.next hb⟩; clear hb HRO)
        | ((with_reducible refine wpList_store_row (P := Tryd.prog) (w := y8.alloc (.cells zh 42)) ?_ 42 (.tmp 15) (.tmp 59) ?_ y8.heap.size (tab 32 fun i => bv (mroot (setM M A1 V1) i)) ?_ ?_ 42 zh (heap_alloc_last y8 _) (infH _) ?_ (one_bv _ _) ?_); (· exact rfl); (· exact rfl); (· exact rfl); (· exact rfl); (· rw [HZI.out.2.2, tab_size]); rw [World.setRow_alloc_new]; simp only [Act.put]))
      have H11 : Hid ((IsTab (y8.alloc (.cells (tab 32 fun i => bv (mroot (setM M A1 V1) i)) 42)) y8.heap.size 42 32 fun i => bv (mroot (setM M A1 V1) i)) ∧ (IsTab (y8.alloc (.cells (tab 32 fun i => bv (mroot (setM M A1 V1) i)) 42)) q13 42 32 fun i => bv (mroot (setM M A1 V1) i)) ∧ Oc w x (setM M A1 V1) (y8.alloc (.cells (tab 32 fun i => bv (mroot (setM M A1 V1) i)) 42))) := Lib.hid ⟨IsTab.new y8 _ 32 _, H10.out.1.alloc _, H10.out.2.next (ba _ _)⟩
      clear H9 H10
      generalize y8.alloc (.cells (tab 32 fun i => bv (mroot (setM M A1 V1) i)) 42) = y9 at *
      generalize y8.heap.size = q15 at *
      have HL13 := Lib.hid (load32h H11.out.2.1)
      have HL15 := Lib.hid (load32h H11.out.1)
      go_wp2_with (first
        | ((with_reducible refine wpList_loadG (P := Tryd.prog) (w := y9) (ty := 42) (x := .tmp 13) (p := .pointer (some ⟨q13, 0, none⟩)) (v := dv (mroot (setM M A1 V1))) ?_ ?_ ?_ HL13.out ?_); rotate_left; (· exact rfl); (· exact rfl); rotate_left; (· go_simp))
        | ((with_reducible refine wpList_loadG (P := Tryd.prog) (w := y9) (ty := 42) (x := .tmp 15) (p := .pointer (some ⟨q15, 0, none⟩)) (v := dv (mroot (setM M A1 V1))) ?_ ?_ ?_ HL15.out ?_); rotate_left; (· exact rfl); (· exact rfl); rotate_left; (· go_simp))
        | (refine wpList_neqG (by go_simp) (.tmp 76) (.tmp 77) 42 (mroot (setM M A1 V1)) rfl rfl rfl ?_))
      go_roundw
      case rel => exact ⟨1, by go_num, Lib.hid (.inr (.inl ⟨rfl, H11.out.2.2⟩))⟩
      case measure => simp [intOf]
    · have HP := Lib.hid ho
      have HX := HX2
      have HXQ : Hid (x ≠ wr.heap.size) := Lib.hid (by have := ho.mac.lt; omega)
      clear hp ho
      rw [show ((1 : Nat) : Int) = 1 from rfl]
      have ix := fun u => ixC1 (.int .u64 X1) (.int .u64 V1) (.int .u64 X2) (.int .u64 V2) u
      have HNW := Lib.hid (Box2.new wr 61 (.int .u64 (X2 : Nat)) (.int .u64 (V2 : Nat)))
      have H1 := Lib.hid (HP.out.next (ba wr (.cells #[.int .u64 (X2 : Nat), .int .u64 (V2 : Nat)] 61)))
      have hmod := HX.out.1
      go_upto_region 5 with (fail)
      generalize wr.alloc (.cells #[.int .u64 (X2 : Nat), .int .u64 (V2 : Nat)] 61) = y1 at *
      generalize wr.heap.size = q8 at *
      have k0 := HNW.out.k0
      have HPR := Lib.hid (Prove_ok y1 x A2 (setM M A1 V1) H1.out.mac HX.out.2.2.2 HX.out.2.1 (ktab_below HT.out H1.out.below))
      go_upto_region 6 with (first
        | (go_at_call 20; (refine HPR.out.mono ?_); rintro e y2 ⟨a, c, he, hc, hcm, hna, hrow, hb⟩; obtain rfl : e = _ := he; obtain ⟨a9, c9, ev, hsa, _⟩ := hs_of hrow; obtain ⟨rfl, _, rfl⟩ := Value.slice.inj ev; have H2 : Hid (Oc w x (setM M A1 V1) y2 ∧ Box2 y2 q8 61 (.int .u64 (X2 : Nat)) (.int .u64 (V2 : Nat)) ∧ IsHs y2 a 13 (sib (mg (setM M A1 V1)) A2) ∧ 13 ≤ c) := Lib.hid ⟨H1.out.next hb, HNW.out.below hb, hsa, hc⟩; clear hb hc hcm hna hrow hsa HPR k0)
        | ((with_reducible refine wpList_store_row (P := Tryd.prog) (w := y2.alloc (.cells #[.int .u64 0, .slice none 0 0] 54)) ?_ 54 (.tmp 9) (.tmp 29) ?_ y2.heap.size #[.int .u64 ((setM M A1 V1).mem A2), .slice a 13 c] ?_ ?_ 54 #[.int .u64 0, .slice none 0 0] (heap_alloc_last y2 _) infPt ?_ rfl ?_); (· exact rfl); (· exact rfl); (· exact rfl); (· exact rfl); (· exact rfl); rw [World.setRow_alloc_new]; simp only [Act.put]))
      clear hmod
      have HB9 := Lib.hid (Box2.new y2 54 (.int .u64 ((setM M A1 V1).mem A2)) (.slice a 13 c))
      have H3 : Hid (Oc w x (setM M A1 V1) (y2.alloc (.cells #[.int .u64 ((setM M A1 V1).mem A2), .slice a 13 c] 54)) ∧ Box2 (y2.alloc (.cells #[.int .u64 ((setM M A1 V1).mem A2), .slice a 13 c] 54)) q8 61 (.int .u64 (X2 : Nat)) (.int .u64 (V2 : Nat)) ∧ IsHs (y2.alloc (.cells #[.int .u64 ((setM M A1 V1).mem A2), .slice a 13 c] 54)) a 13 (sib (mg (setM M A1 V1)) A2) ∧ 13 ≤ c) := Lib.hid ⟨H2.out.1.next (ba _ _), H2.out.2.1.below (ba _ _), H2.out.2.2.1.below (ba _ _), H2.out.2.2.2⟩
      clear H1 H2 HNW
      generalize y2.alloc (.cells #[.int .u64 ((setM M A1 V1).mem A2), .slice a 13 c] 54) = y3 at *
      generalize y2.heap.size = q9p at *
      have HRO := Lib.hid (Root_walk y3 x (setM M A1 V1) H3.out.1.mac HX.out.2.2.2 (ktab_below HT.out H3.out.1.below))
      go_upto_region 7 with (first
        | (go_at_call 14; (with_reducible refine HRO.out.mono ?_); rintro e y4 ⟨he, hb⟩; obtain rfl : e = _ := he; have H4 : Hid (Oc w x (setM M A1 V1) y4 ∧ Box2 y4 q8 61 (.int .u64 (X2 : Nat)) (.int .u64 (V2 : Nat)) ∧ IsHs y4 a 13 (sib (mg (setM M A1 V1)) A2) ∧ 13 ≤ c ∧ Box2 y4 q9p 54 (.int .u64 ((setM M A1 V1).mem A2)) (.slice a 13 c)) := Lib.hid ⟨H3.out.1.next hb, H3.out.2.1.below hb, H3.out.2.2.1.below hb, H3.out.2.2.2, HB9.out.below hb⟩; clear hb HRO)
        | ((with_reducible refine wpList_store_row (P := Tryd.prog) (w := y4.alloc (.cells zh 42)) ?_ 42 (.tmp 11) (.tmp 34) ?_ y4.heap.size (tab 32 fun i => bv (mroot (setM M A1 V1) i)) ?_ ?_ 42 zh (heap_alloc_last y4 _) (infH _) ?_ (one_bv _ _) ?_); (· exact rfl); (· exact rfl); (· exact rfl); (· exact rfl); (· rw [HZI.out.2.2, tab_size]); rw [World.setRow_alloc_new]; simp only [Act.put]))
      have H5 : Hid ((IsTab (y4.alloc (.cells (tab 32 fun i => bv (mroot (setM M A1 V1) i)) 42)) y4.heap.size 42 32 fun i => bv (mroot (setM M A1 V1) i)) ∧ Below y4.heap.size y4 (y4.alloc (.cells (tab 32 fun i => bv (mroot (setM M A1 V1) i)) 42))) := Lib.hid ⟨IsTab.new y4 _ 32 _, ba _ _⟩
      clear H3 HB9
      have HQ4 : Hid (Below y4.heap.size y4 (y4.alloc (.cells (tab 32 fun i => bv (mroot (setM M A1 V1) i)) 42))) := Lib.hid (ba _ _)
      generalize y4.alloc (.cells (tab 32 fun i => bv (mroot (setM M A1 V1) i)) 42) = y5 at *
      have H6 : Hid (Oc w x (setM M A1 V1) y5 ∧ Box2 y5 q8 61 (.int .u64 (X2 : Nat)) (.int .u64 (V2 : Nat)) ∧ IsHs y5 a 13 (sib (mg (setM M A1 V1)) A2) ∧ 13 ≤ c ∧ Box2 y5 q9p 54 (.int .u64 ((setM M A1 V1).mem A2)) (.slice a 13 c)) := Lib.hid ⟨H4.out.1.next HQ4.out, H4.out.2.1.below HQ4.out, H4.out.2.2.1.below HQ4.out, H4.out.2.2.2.1, H4.out.2.2.2.2.below HQ4.out⟩
      clear H4 HQ4
      generalize y4.heap.size = q11 at *
      have k0 := H6.out.2.1.k0
      have k1 := H6.out.2.1.k1
      have hmod := HX.out.1
      have HL11 := Lib.hid (load32h H5.out.1)
      have HL9 := Lib.hid (loadPt H6.out.2.2.2.2)
      have hwr := Write_ok y5 (mroot (setM M A1 V1)) A2 ((setM M A1 V1).mem A2) V2 13 c a (sib (mg (setM M A1 V1)) A2) H6.out.2.2.1 H6.out.2.2.2.1 HX.out.2.1 (HX.out.2.2.2 _) HX.out.2.2.1 (ktab_below HT.out H6.out.1.below) rfl (by rw [own_fold (setM M A1 V1) HX.out.2.1]; exact same_refl _)
      rw [other_fold (setM M A1 V1) HX.out.2.1] at hwr
      have HWR := Lib.hid hwr
      clear hwr
      go_upto_region 8 with (first
        | ((with_reducible refine wpList_loadE (P := Tryd.prog) (w := y5) (ty := 42) (x := .tmp 11) (p := .pointer (some ⟨q11, 0, none⟩)) (v := dv (mroot (setM M A1 V1))) ?_ ?_ ?_ HL11.out ?_); (· exact rfl); (· exact rfl); (· exact rfl))
        | ((with_reducible refine wpList_loadE (P := Tryd.prog) (w := y5) (ty := 54) (x := .tmp 9) (p := .pointer (some ⟨q9p, 0, none⟩)) (v := .agg #[.int .u64 ((setM M A1 V1).mem A2), .slice a 13 c]) ?_ ?_ ?_ HL9.out ?_); (· exact rfl); (· exact rfl); (· exact rfl))
        | (go_at_call 21; (refine HWR.out.mono ?_); rintro e y6 ⟨he, hb⟩; obtain rfl : e = _ := he; have H7 : Hid (Oc w x (setM M A1 V1) y6 ∧ Box2 y6 q8 61 (.int .u64 (X2 : Nat)) (.int .u64 (V2 : Nat))) := Lib.hid ⟨H6.out.1.next hb, H6.out.2.1.below hb⟩; clear hb HWR k0 k1)
        | ((with_reducible refine wpList_store_row (P := Tryd.prog) (w := y6.alloc (.cells zh 42)) ?_ 42 (.tmp 13) (.tmp 45) ?_ y6.heap.size (tab 32 fun i => bv (mroot (setM (setM M A1 V1) A2 V2) i)) ?_ ?_ 42 zh (heap_alloc_last y6 _) (infH _) ?_ (one_bv _ _) ?_); (· exact rfl); (· exact rfl); (· exact rfl); (· exact rfl); (· rw [HZI.out.2.2, tab_size]); rw [World.setRow_alloc_new]; simp only [Act.put]))
      clear hmod HL11 HL9 H5 H6
      have H8 : Hid ((IsTab (y6.alloc (.cells (tab 32 fun i => bv (mroot (setM (setM M A1 V1) A2 V2) i)) 42)) y6.heap.size 42 32 fun i => bv (mroot (setM (setM M A1 V1) A2 V2) i)) ∧ Oc w x (setM M A1 V1) (y6.alloc (.cells (tab 32 fun i => bv (mroot (setM (setM M A1 V1) A2 V2) i)) 42)) ∧ Box2 (y6.alloc (.cells (tab 32 fun i => bv (mroot (setM (setM M A1 V1) A2 V2) i)) 42)) q8 61 (.int .u64 (X2 : Nat)) (.int .u64 (V2 : Nat))) := Lib.hid ⟨IsTab.new y6 _ 32 _, H7.out.1.next (ba _ _), H7.out.2.below (ba _ _)⟩
      have HNX : Hid (x ≠ y6.heap.size ∧ x ≠ q8) := Lib.hid ⟨by have := H7.out.1.mac.lt; omega, HXQ.out⟩
      clear H7
      generalize y6.alloc (.cells (tab 32 fun i => bv (mroot (setM (setM M A1 V1) A2 V2) i)) 42) = y7 at *
      generalize y6.heap.size = q13 at *
      have H8 : Hid ((IsTab y7.drew q13 42 32 fun i => bv (mroot (setM (setM M A1 V1) A2 V2) i)) ∧ Oc w x (setM M A1 V1) y7.drew ∧ Box2 y7.drew q8 61 (.int .u64 (X2 : Nat)) (.int .u64 (V2 : Nat))) := Lib.hid ⟨H8.out.1, H8.out.2.1.next (Below.refl _ _).drew, H8.out.2.2⟩
      refine wp_region_og (fun z : World => Box2 z q8 61 (.int .u64 (X2 : Nat)) (.int .u64 (V2 : Nat))) (.take 0 (.take 1 (.take 2 (.take 3 (.take 4 (.take 5 (.take 6 (.take 7 (.take 8 (.one 9 .done)))))))))) (by kernel_rfl) (by kernel_rfl) H8.out.2.2 ?_
      generalize y7.drew = z1 at *
      refine og_tk (some 47) (.pointer (some ⟨x, 0, none⟩)) rfl rfl (by go_simp) (fun _ _ => by simp [execOp, go_sem]) ?_
      simp only [Act.put, pS]
      refine og_tk (some 48) (.pointer (some ⟨q8, 0, none⟩)) rfl rfl (by go_simp) (fun _ _ => by simp [execOp, go_sem]) ?_
      simp only [Act.put, pS]
      refine og_ld (some 49) 33 (.tmp 48) (.pointer (some ⟨q8, 0, none⟩)) (.int .u64 (X2 : Nat)) rfl rfl (by go_simp) rfl rfl (fun y hy => by have h := hy.k0; simp [Instr.loadAt, go_sem, h, Tryd.underlying33]) ?_
      simp only [Act.put, pS]
      refine og_tk (some 50) (.int .u64 (A2 : Nat)) rfl rfl (by go_simp) (fun y hy => by have h := HX.out.1; simp [execOp, go_sem, h, Result.andThen]) ?_
      simp only [Act.put, pS]
      refine og_tk (some 51) (.pointer (some ⟨q8, 1, none⟩)) rfl rfl (by go_simp) (fun _ _ => by simp [execOp, go_sem]) ?_
      simp only [Act.put, pS]
      refine og_ld (some 52) 33 (.tmp 51) (.pointer (some ⟨q8, 1, none⟩)) (.int .u64 (V2 : Nat)) rfl rfl (by go_simp) rfl rfl (fun y hy => by have h := hy.k1; simp [Instr.loadAt, go_sem, h, Tryd.underlying33]) ?_
      simp only [Act.put, pS]
      refine og_tk (some 53) (.pointer (some ⟨x, 0, none⟩)) rfl rfl (by go_simp) (fun _ _ => by simp [execOp, go_sem]) ?_
      simp only [Act.put, pS]
      refine og_tk (some 54) (.pointer (some ⟨x, 0, none⟩)) rfl rfl (by go_simp) (fun _ _ => by simp [execOp, go_sem]) ?_
      simp only [Act.put, pS]
      refine og_tk (some 55) (.pointer (some ⟨x, A2, none⟩)) rfl rfl (by go_simp) (fun y hy => by have h := ixMemU x A2 HX.out.2.1 y; simp [execOp, go_sem, h, Result.andThen]) ?_
      simp only [Act.put, pS]
      have kd := H8.out.2.1.mac.mem HX.out.2.1
      have fd := H8.out.2.1.mac.fz A2
      have H9 : Hid ((IsTab (z1.setCell ⟨x, A2, none⟩ (.int .u64 (V2 : Nat))) q13 42 32 fun i => bv (mroot (setM (setM M A1 V1) A2 V2) i)) ∧ Oc w x (setM (setM M A1 V1) A2 V2) (z1.setCell ⟨x, A2, none⟩ (.int .u64 (V2 : Nat)))) := Lib.hid ⟨IsTab.keep H8.out.1 (Ne.symm HNX.out.1), ⟨H8.out.2.1.mac.setMem HX.out.2.1 V2, H8.out.2.1.below.setCell H8.out.2.1.ge _, H8.out.2.1.ge⟩⟩
      refine og_f rfl (by go_simp) fun K hK => ?_
      go_simp
      refine hK _ _ (IsTab.keep H8.out.2.2 (Ne.symm HNX.out.2)) ?_
      clear hK K kd fd H8
      try simp only [List.getElem_toArray, List.getElem_cons_succ, List.getElem_cons_zero, Act.put, pS]
      refine og_done (NoPanic.normal ?_)
      generalize z1.setCell ⟨x, A2, none⟩ (.int .u64 (V2 : Nat)) = z2 at *
      have HOK2 := Lib.hid (mem_setM HX.out.2.2.2 A2 HX.out.2.2.1)
      have HRO := Lib.hid (Root_walk z2 x (setM (setM M A1 V1) A2 V2) H9.out.2.mac HOK2.out (ktab_below HT.out H9.out.2.below))
      go_upto_region 10 with (first
        | (go_at_call 14; (with_reducible refine HRO.out.mono ?_); rintro e y8 ⟨he, hb⟩; obtain rfl : e = _ := he; have H10 : Hid ((IsTab y8 q13 42 32 fun i => bv (mroot (setM (setM M A1 V1) A2 V2) i)) ∧ Oc w x (setM (setM M A1 V1) A2 V2) y8) := Lib.hid ⟨H9.out.1.below hb, H9.out.2.next hb⟩; clear hb HRO)
        | ((with_reducible refine wpList_store_row (P := Tryd.prog) (w := y8.alloc (.cells zh 42)) ?_ 42 (.tmp 15) (.tmp 59) ?_ y8.heap.size (tab 32 fun i => bv (mroot (setM (setM M A1 V1) A2 V2) i)) ?_ ?_ 42 zh (heap_alloc_last y8 _) (infH _) ?_ (one_bv _ _) ?_); (· exact rfl); (· exact rfl); (· exact rfl); (· exact rfl); (· rw [HZI.out.2.2, tab_size]); rw [World.setRow_alloc_new]; simp only [Act.put]))
      have H11 : Hid ((IsTab (y8.alloc (.cells (tab 32 fun i => bv (mroot (setM (setM M A1 V1) A2 V2) i)) 42)) y8.heap.size 42 32 fun i => bv (mroot (setM (setM M A1 V1) A2 V2) i)) ∧ (IsTab (y8.alloc (.cells (tab 32 fun i => bv (mroot (setM (setM M A1 V1) A2 V2) i)) 42)) q13 42 32 fun i => bv (mroot (setM (setM M A1 V1) A2 V2) i)) ∧ Oc w x (setM (setM M A1 V1) A2 V2) (y8.alloc (.cells (tab 32 fun i => bv (mroot (setM (setM M A1 V1) A2 V2) i)) 42))) := Lib.hid ⟨IsTab.new y8 _ 32 _, H10.out.1.alloc _, H10.out.2.next (ba _ _)⟩
      clear H9 H10
      generalize y8.alloc (.cells (tab 32 fun i => bv (mroot (setM (setM M A1 V1) A2 V2) i)) 42) = y9 at *
      generalize y8.heap.size = q15 at *
      have HL13 := Lib.hid (load32h H11.out.2.1)
      have HL15 := Lib.hid (load32h H11.out.1)
      go_wp2_with (first
        | ((with_reducible refine wpList_loadG (P := Tryd.prog) (w := y9) (ty := 42) (x := .tmp 13) (p := .pointer (some ⟨q13, 0, none⟩)) (v := dv (mroot (setM (setM M A1 V1) A2 V2))) ?_ ?_ ?_ HL13.out ?_); rotate_left; (· exact rfl); (· exact rfl); rotate_left; (· go_simp))
        | ((with_reducible refine wpList_loadG (P := Tryd.prog) (w := y9) (ty := 42) (x := .tmp 15) (p := .pointer (some ⟨q15, 0, none⟩)) (v := dv (mroot (setM (setM M A1 V1) A2 V2))) ?_ ?_ ?_ HL15.out ?_); rotate_left; (· exact rfl); (· exact rfl); rotate_left; (· go_simp))
        | (refine wpList_neqG (by go_simp) (.tmp 76) (.tmp 77) 42 (mroot (setM (setM M A1 V1) A2 V2)) rfl rfl rfl ?_))
      go_roundw
      case rel => exact ⟨2, by go_num, Lib.hid (.inr (.inr ⟨rfl, H11.out.2.2⟩))⟩
      case measure => simp [intOf]
    · have HP := Lib.hid ho
      clear hp ho
      rw [show ((2 : Nat) : Int) = 2 from rfl]
      go_upto_region 13 with (fail)
      refine wp_region_og (fun z : World => IsMac z x (setM (setM M A1 V1) A2 V2) ∧ z.cell? ⟨q9, 0, none⟩ = some (.int .u64 I)) (.take 0 (.take 1 (.take 2 (.take 3 (.take 4 (.take 5 (.take 6 (.take 7 .done)))))))) (by kernel_rfl) (by kernel_rfl) ⟨HP.out.mac.below (Below.refl _ _).drew, keep1 HP.out.below.drew H9.out.1⟩ ?_
      have HBF := Lib.hid HP.out.below.drew
      generalize wr.drew = z1 at *
      refine og_tk (some 81) (.pointer (some ⟨x, 0, none⟩)) rfl rfl (by go_simp) (fun _ _ => by simp [execOp, go_sem]) ?_
      simp only [Act.put, pS]
      refine og_ld (some 82) 33 (.tmp 2) (.pointer (some ⟨q9, 0, none⟩)) (.int .u64 I) rfl rfl (by go_simp) rfl rfl (fun y hy => by have h := hy.2; simp [Instr.loadAt, go_sem, h, Tryd.underlying33]) ?_
      simp only [Act.put, pS]
      refine og_tk (some 83) (.pointer (some ⟨x, 0, none⟩)) rfl rfl (by go_simp) (fun _ _ => by simp [execOp, go_sem]) ?_
      simp only [Act.put, pS]
      refine og_tk (some 84) (.pointer (some ⟨x, 0, none⟩)) rfl rfl (by go_simp) (fun _ _ => by simp [execOp, go_sem]) ?_
      simp only [Act.put, pS]
      refine og_tk (some 85) (.pointer (some ⟨x, I, none⟩)) rfl rfl (by go_simp) (fun y hy => by have h := ixMemU x I H9.out.2 y; simp [execOp, go_sem, h, Result.andThen]) ?_
      simp only [Act.put, pS]
      refine og_ld (some 86) 33 (.tmp 85) (.pointer (some ⟨x, I, none⟩)) (.int .u64 ((setM (setM M A1 V1) A2 V2).mem I)) rfl rfl (by go_simp) rfl rfl (fun y hy => by have h := hy.1.mem H9.out.2; simp [Instr.loadAt, go_sem, h, Tryd.underlying33]) ?_
      simp only [Act.put, pS]
      refine og_tk (some 4) (.int .u64 ((setM (setM M A1 V1) A2 V2).mem I)) rfl rfl (by go_simp) (fun _ _ => by simp [execOp, go_sem]) ?_
      simp only [Act.put, pS]
      refine og_tk (some 5) (.bool true) rfl rfl (by go_simp) (fun _ _ => by simp [execOp, go_sem]) ?_
      simp only [Act.put, pS]
      refine og_done (NoPanic.normal ?_)
      go_wp2_with (fail)
      exact bodyPost_ret (v := .tuple #[.int .u64 ((setM (setM M A1 V1) A2 V2).mem I), .bool true]) (by simp [results, Tryd.results23, go_sem]) rfl ⟨rfl, HBF.out⟩
end Co
end Go.Proofs.YtgffohmneobblaaDoor
