/- Merged of Cw Co. Own work. -/
import Derived.Test.YtjfpbponjhpdhaaDoorP31
import Derived.Test.YtjfpbponjhpdhaaDoorP19
namespace Go.Proofs.YtjfpbponjhpdhaaDoor
open Go.RowKit
set_option linter.unusedVariables false
set_option linter.unusedSimpArgs false
namespace Co
open Kc Mk Vm
theorem infMc : (Tryd.prog.info? 37).map (·.size) = some 8211 := by kernel_rfl
theorem undMac : Tryd.prog.underlying 37 = some (.struct (Tryd.prog.fieldsOf 37)) := by kernel_rfl
theorem loadMac {w : World} {b : Nat} {M : Mac} (h : IsMac w b M) : (Instr.loadAt 37 (.pointer (some ⟨b, 0, none⟩))).run Tryd.prog w = .ok (.agg (tab 8211 (mc M))) w := by
  refine run_loadAt_mid w b 0 _ ((List.range 8211).map (mc M)) _ (fun j v hv => ?_) undMac rfl (by rw [List.length_map, List.length_range]; exact infMc)
  obtain ⟨hj, rfl⟩ := List.getElem?_eq_some_iff.1 hv
  simp only [List.length_map, List.length_range] at hj
  have := IsTab.cell h j hj
  simpa using this
set_option maxHeartbeats 2000000 in
set_option maxRecDepth 100000 in
theorem Copy_walk (w : World) (b : Nat) (M : Mac) (hm : IsMac w b M) :
    Calls Tryd.prog 13 #[.pointer (some ⟨b, 0, none⟩)] w fun e w' => ∃ q, e = .returned (.pointer (some ⟨q, 0, none⟩)) ∧ IsMac w' q M ∧ w.heap.size ≤ q ∧ Below w.heap.size w w' := by
  have HLM := Lib.hid (loadMac hm)
  have z9 := zeroMac' w
  have HPQ : Hid (IsMac (w.alloc (.cells (tab 8211 (mc M)) 37)) w.heap.size M ∧ Below w.heap.size w (w.alloc (.cells (tab 8211 (mc M)) 37))) := Lib.hid ⟨IsTab.new w _ 8211 _, ba _ _⟩
  obtain ⟨cm, hcm⟩ : ∃ cm, tab 8211 (mc M) = cm := ⟨_, rfl⟩
  have HCM := Lib.hid hcm
  rw [hcm] at HLM HPQ
  clear hcm hm
  generalize hzm : tab 8211 (mc m0) = zm at *
  have HZ : Hid (zm.size = 8211) := Lib.hid (by rw [← hzm, tab_size])
  clear hzm
  go_enter Tryd.func13, Tryd.ntmps13
  go_wp2_with (first
    | ((with_reducible refine wpList_loadE (P := Tryd.prog) (w := w) (ty := 37) (x := .tmp 7) (p := .pointer (some ⟨b, 0, none⟩)) (v := .agg cm) ?_ ?_ ?_ HLM.out ?_); (· exact rfl); (· exact rfl); (· exact rfl))
    | ((with_reducible refine wpList_store_row (P := Tryd.prog) (w := w.alloc (.cells zm 37)) ?_ 37 (.tmp 3) (.tmp 8) ?_ w.heap.size cm ?_ ?_ 37 zm (heap_alloc_last w _) ?_ ?_ ?_ ?_); (· exact rfl); (· exact rfl); (· exact rfl); (· exact rfl); (· rw [← HCM.out]; exact infM _); (· rw [← HCM.out, HZ.out, tab_size]); (· rw [← HCM.out]; exact one_mc' _); rw [World.setRow_alloc_new]; simp only [Act.put]))
  exact bodyPost_ret (v := .pointer (some ⟨w.heap.size, 0, none⟩)) (by simp [results, Tryd.results13, go_sem]) rfl ⟨w.heap.size, rfl, HPQ.out.1, Nat.le_refl _, HPQ.out.2⟩
set_option maxHeartbeats 2000000 in
set_option maxRecDepth 100000 in
theorem Write_ok (w : World) (r : Hx) (i v0 v n c : Nat) (a : Option Addr) (p : Nat → Hx) (hs : IsHs w a 13 p) (hc : 13 ≤ c) (hi : i < 8192) (hv0 : v0 < 18446744073709551616) (hv : v < 18446744073709551616) (ht : Laid.KTab w) (hn : n = 13) (hh : same32 (fold i (lfX v0) p 13) r = true) :
    Calls Tryd.prog 19 #[.agg (tab 32 fun i => bv (r i)), .int .u64 i, .agg #[.int .u64 v0, .slice a n c], .int .u64 v] w fun e w' => e = .returned (.tuple #[dv (fold i (lfX v) p 13), .nilIface]) ∧ Below w.heap.size w w' := by
  subst hn
  have z2 := zeroHash
  have HBH := Lib.hid (fun u : World => buildH0 u)
  generalize hz : (tab 32 fun _ => bv 0#8) = zh at *
  have HZ := Lib.hid hz
  clear hz
  have HZI : Hid ((Tryd.prog.info? 42).map (·.size) = some zh.size ∧ zh.all (·.oneCell') = true ∧ zh.size = 32) := Lib.hid ⟨by rw [← HZ.out]; exact infH _, by rw [← HZ.out]; exact one_bv _ _, by rw [← HZ.out, tab_size]⟩
  have HW : Hid (IsTab (((w.alloc (.cells (tab 32 fun i => bv (r i)) 42)).alloc (.cells #[.int .u64 v0, .slice a 13 c] 54)).alloc (.cells zh 42)) w.heap.size 42 32 (fun i => bv (r i)) ∧ Box2 (((w.alloc (.cells (tab 32 fun i => bv (r i)) 42)).alloc (.cells #[.int .u64 v0, .slice a 13 c] 54)).alloc (.cells zh 42)) (w.heap.size + 1) 54 (.int .u64 v0) (.slice a 13 c) ∧ IsTab (((w.alloc (.cells (tab 32 fun i => bv (r i)) 42)).alloc (.cells #[.int .u64 v0, .slice a 13 c] 54)).alloc (.cells zh 42)) (w.heap.size + 1 + 1) 42 32 (fun _ => bv 0#8) ∧ Below w.heap.size w (((w.alloc (.cells (tab 32 fun i => bv (r i)) 42)).alloc (.cells #[.int .u64 v0, .slice a 13 c] 54)).alloc (.cells zh 42))) := Lib.hid (by
    have e1 : (w.alloc (.cells (tab 32 fun i => bv (r i)) 42)).heap.size = w.heap.size + 1 := by simp
    have e2 : ((w.alloc (.cells (tab 32 fun i => bv (r i)) 42)).alloc (.cells #[.int .u64 v0, .slice a 13 c] 54)).heap.size = w.heap.size + 1 + 1 := by simp
    refine ⟨((IsTab.new w 42 32 _).alloc _).alloc _, ?_, ?_, ((ba _ _).alloc (by simp) _).alloc (by simp; omega) _⟩
    · have h := Box2.new (w.alloc (.cells (tab 32 fun i => bv (r i)) 42)) 54 (.int .u64 v0) (.slice a 13 c)
      rw [e1] at h; exact IsTab.alloc h _
    · have h := put_new ((w.alloc (.cells (tab 32 fun i => bv (r i)) 42)).alloc (.cells #[.int .u64 v0, .slice a 13 c] 54)) (fun _ => 0#8) zh HZ.out
      rw [e2] at h; exact h)
  have HQL : Hid (w.heap.size < w.heap.size + 1 ∧ w.heap.size < w.heap.size + 1 + 1 ∧ w.heap.size + 1 ≠ w.heap.size + 1 + 1) := Lib.hid (by omega)
  have HHY := Lib.hid (And.intro hs (And.intro hc (And.intro hi (And.intro hv0 (And.intro ht hh)))))
  have HV := Lib.hid hv
  have HE1 : Hid (IntKind.i64.wrap (i : Int) = (i : Int)) := Lib.hid (by simp [IntKind.wrap, IntKind.bits, IntKind.signed, IntKind.min, IntKind.max]; omega)
  clear hs hc hi hv0 hv ht hh
  go_enter Tryd.func19, Tryd.ntmps19
  go_upto_region 1 with (fail)
  generalize ((w.alloc (.cells (tab 32 fun i => bv (r i)) 42)).alloc (.cells #[.int .u64 v0, .slice a 13 c] 54)).alloc (.cells zh 42) = y0 at *
  generalize w.heap.size + 1 + 1 = q8 at *
  generalize w.heap.size + 1 = q6 at *
  generalize hq : w.heap.size = q4 at *
  have HQ := Lib.hid hq
  clear hq
  have HL4 := Lib.hid (load32h HW.out.1)
  have HL6 := Lib.hid (loadPt HW.out.2.1)
  have HQL2 : Hid (q4 < q6 ∧ q4 < q8 ∧ q6 ≠ q8) := Lib.hid ⟨HQL.out.1, HQL.out.2.1, HQL.out.2.2⟩
  have hho := Holds_ok y0 r i v0 c a p (HHY.out.1.below (HQ.out ▸ HW.out.2.2.2)) HHY.out.2.1 HHY.out.2.2.1 HHY.out.2.2.2.1 (ktab_below HHY.out.2.2.2.2.1 (HQ.out ▸ HW.out.2.2.2))
  rw [HHY.out.2.2.2.2.2] at hho
  have HH := Lib.hid hho
  clear hho
  go_upto_region 6 with (first
    | ((with_reducible refine wpList_loadE (P := Tryd.prog) (w := y0) (ty := 42) (x := .tmp 4) (p := .pointer (some ⟨q4, 0, none⟩)) (v := dv r) ?_ ?_ ?_ HL4.out ?_); (· exact rfl); (· exact rfl); (· exact rfl))
    | ((with_reducible refine wpList_loadE (P := Tryd.prog) (w := y0) (ty := 54) (x := .tmp 6) (p := .pointer (some ⟨q6, 0, none⟩)) (v := .agg #[.int .u64 v0, .slice a 13 c]) ?_ ?_ ?_ HL6.out ?_); (· exact rfl); (· exact rfl); (· exact rfl))
    | (go_at_call 35; (refine HH.out.mono ?_); rintro e y1 ⟨he, hb⟩; obtain rfl : e = _ := he; have H1 : Hid (Box2 y1 q6 54 (.int .u64 v0) (.slice a 13 c) ∧ (IsTab y1 q8 42 32 fun _ => bv 0#8) ∧ Below y0.heap.size y0 y1 ∧ Below q4 w y1) := Lib.hid ⟨HW.out.2.1.below hb, HW.out.2.2.1.below hb, hb, HW.out.2.2.2.trans (hb.mono (by have := HW.out.1.lt; omega))⟩; clear hb HH))
  refine wp_region_og (fun z : World => z.cell? ⟨q6, 1, none⟩ = some (.slice a 13 c)) (.take 0 (.take 1 (.take 2 (.take 4 (.take 5 (.one 3 (.one 6 (.take 7 (.take 8 (.one 9 (.take 10 .done))))))))))) (by kernel_rfl) (by kernel_rfl) H1.out.1.k1 ?_
  have HY : Hid (Below y1.heap.size y1 y1.drew) := Lib.hid (Below.refl _ _).drew
  generalize y1.drew = y2 at *
  refine og_tk (some 27) (.int .u64 i) rfl rfl (by go_simp) (fun _ _ => by simp [execOp, go_sem]) ?_
  simp only [Act.put, pS]
  refine og_tk (some 28) (.int .i64 i) rfl rfl (by go_simp) (fun y hy => by have h := HE1.out; simp [execOp, go_sem, h, Result.andThen]) ?_
  simp only [Act.put, pS]
  refine og_tk (some 29) (.int .u64 v) rfl rfl (by go_simp) (fun _ _ => by simp [execOp, go_sem]) ?_
  simp only [Act.put, pS]
  refine og_tk (some 31) (.pointer (some ⟨q6, 1, none⟩)) rfl rfl (by go_simp) (fun _ _ => by simp [execOp, go_sem]) ?_
  simp only [Act.put, pS]
  refine og_ld (some 32) 52 (.tmp 31) (.pointer (some ⟨q6, 1, none⟩)) (.slice a 13 c) rfl rfl (by go_simp) rfl rfl (fun y hy => by have h := hy; simp [Instr.loadAt, go_sem, h, Tryd.underlying52]) ?_
  simp only [Act.put, pS]
  have HLF := Lib.hid (leaf_walk y2 v HV.out)
  refine og_f rfl (by go_simp) fun K hK => ?_
  go_simp
  refine HLF.out.mono ?_
  rintro e y3 ⟨he, hb⟩
  obtain rfl : e = _ := he
  have HY : Hid (Below y1.heap.size y1 y3) := Lib.hid (bl HY.out hb)
  refine hK _ _ (keep1 HY.out H1.out.1.k1) ?_
  clear hK K hb HLF
  try simp only [List.getElem_toArray, List.getElem_cons_succ, List.getElem_cons_zero, Act.put, pS]
  have HFO := Lib.hid (fold_ok i (lfX v) a 13 c p y3 (HHY.out.1.below (HQ.out ▸ (H1.out.2.2.2.trans (HY.out.mono (by have := H1.out.2.1.lt; have := HQL.out; omega))))) HHY.out.2.1 (by decide) HHY.out.2.2.1 (ktab_below HHY.out.2.2.2.2.1 (HQ.out ▸ (H1.out.2.2.2.trans (HY.out.mono (by have := H1.out.2.1.lt; have := HQL.out; omega))))))
  refine og_f rfl (by go_simp) fun K hK => ?_
  go_simp
  refine HFO.out.mono ?_
  rintro e y4 ⟨he, hb⟩
  obtain rfl : e = _ := he
  have HY : Hid (Below y1.heap.size y1 y4) := Lib.hid (bl HY.out hb)
  refine hK _ _ (keep1 HY.out H1.out.1.k1) ?_
  clear hK K hb HFO
  try simp only [List.getElem_toArray, List.getElem_cons_succ, List.getElem_cons_zero, Act.put, pS]
  refine og_tk (some 34) (dv (fold i (lfX v) p 13)) rfl rfl (by go_simp) (fun _ _ => by simp [execOp, go_sem]) ?_
  simp only [Act.put, pS]
  refine og_tk (some 35) (.nilIface) rfl rfl (by go_simp) (fun _ _ => by simp [execOp, go_sem]) ?_
  simp only [Act.put, pS]
  have HT8 := Lib.hid (H1.out.2.1.below HY.out)
  have HE : Hid (IsTab (y4.setRow q8 (tab 32 fun j => bv ((fold i (lfX v) p 13) j))) q8 42 32 (fun j => bv ((fold i (lfX v) p 13) j)) ∧ Below q4 w (y4.setRow q8 (tab 32 fun j => bv ((fold i (lfX v) p 13) j)))) := Lib.hid ⟨HT8.out.row, below_setRow (H1.out.2.2.2.trans (HY.out.mono (by have := H1.out.2.1.lt; have := HQL.out; omega))) (by have := HQL.out; omega) _⟩
  refine og_f rfl (by go_simp) fun K hK => ?_
  refine wp_store_row 42 (.tmp 8) (.tmp 34) rfl q8 (tab 32 fun j => bv ((fold i (lfX v) p 13) j)) rfl rfl 42 _ (HT8.out) (infH _) (by simp only [tab_size]) (one_bv _ _) ?_
  refine hK _ _ (by have h := keep1 HY.out H1.out.1.k1; rw [World.cell?_of_block (w := y4) (setRow_other _ _ _ _ (show q6 ≠ q8 from HQL2.out.2.2))]; exact h) ?_
  clear hK K
  try simp only [List.getElem_toArray, List.getElem_cons_succ, List.getElem_cons_zero, Act.put, pS]
  generalize y4.setRow q8 (tab 32 fun j => bv ((fold i (lfX v) p 13) j)) = y9 at *
  refine og_tk (some 9) (.nilIface) rfl rfl (by go_simp) (fun _ _ => by simp [execOp, go_sem]) ?_
  simp only [Act.put, pS]
  refine og_done (NoPanic.normal ?_)
  go_wp2_with (fail)
  exact bodyPost_ret (Kc.results_cell_tmp rfl _ _ q8 42 _ (0, 0) _ rfl HE.out.1 undH rfl (infH _) .nilIface rfl) rfl ⟨rfl, by rw [HQ.out]; exact HE.out.2⟩
end Co
end Go.Proofs.YtjfpbponjhpdhaaDoor
namespace Go.Proofs.YtjfpbponjhpdhaaDoor
open Go.RowKit Go.ChangeShapes
set_option linter.unusedVariables false
set_option linter.unusedSimpArgs false
namespace Co
open Kc Mk Vm
theorem mg_at (M : Mac) {k : Nat} (h : k < 8192) : mg M k = lfX (M.mem k) := ext_in _ h
theorem put_mg (M : Mac) {i : Nat} (hi : i < 8192) (v : Nat) : put (mg M) i (lfX v) = mg (setM M i v) := by
  funext k
  unfold put mg ext mlf setM
  by_cases e : k = i
  · subst e; simp [hi]
  · simp [e]
theorem own_fold (M : Mac) {i : Nat} (hi : i < 8192) : fold i (lfX (M.mem i)) (sib (mg M) i) 13 = mroot M := by
  have h := fold_own (g := mg M) (i := i) (d := 13) (p := sib (mg M) i) (by omega) (fun _ _ => rfl)
  rw [mg_at M hi] at h; exact h
theorem other_fold (M : Mac) {i : Nat} (hi : i < 8192) (v : Nat) : fold i (lfX v) (sib (mg M) i) 13 = mroot (setM M i v) := by
  have h := fold_other (g := mg M) (i := i) (d := 13) (p := sib (mg M) i) (lfX v) (by omega) (fun _ _ => rfl)
  rw [put_mg M hi] at h; exact h
/-- What the closure's loop keeps. -/
structure Oc (W : World) (x : Nat) (M : Mac) (y : World) : Prop where
  mac : IsMac y x M
  below : Below W.heap.size W y
  ge : W.heap.size ≤ x
theorem Oc.next {W y y' : World} {x : Nat} {M : Mac} (h : Oc W x M y) (hb : Below y.heap.size y y') : Oc W x M y' := ⟨h.mac.below hb, bl h.below hb, h.ge⟩
end Co
end Go.Proofs.YtjfpbponjhpdhaaDoor
