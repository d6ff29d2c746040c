/- Merged of Cw Co Cg Cq Ur Cu Da Db Dc Dd De Df Dg Dh Di Dj Dk. Own work. -/
import Derived.Test.YtjfpbponjhpdhaaDoorCf
import Derived.Test.YtjfpbponjhpdhaaDoorOpn
import Derived.Test.YtjfpbponjhpdhaaDoorCe
import Derived.Test.YtjfpbponjhpdhaaDoorCl
import Derived.Test.YtjfpbponjhpdhaaDoorMp
namespace Go.Proofs.YtjfpbponjhpdhaaDoor
open Go.RowKit
set_option linter.unusedVariables false
set_option linter.unusedSimpArgs false
namespace Co
open Kc Mk Vm
theorem infMc : (Tryd.prog.info? 37).map (·.size) = some 8211 := by kernel_rfl
theorem undMac : Tryd.prog.underlying 37 = some (.struct (Tryd.prog.fieldsOf 37)) := by kernel_rfl
theorem loadMac {w : World} {b : Nat} {M : Mac} (h : IsMac w b M) : (Instr.loadAt 37 (.pointer (some ⟨b, 0, none⟩))).run Tryd.prog w = .ok (.agg (tab 8211 (mc M))) w := by
  refine run_loadAt_mid w b 0 _ ((List.range 8211).map (mc M)) _ (fun j v hv => ?_) undMac rfl (by rw [List.length_map, List.length_range]; exact infMc)
  obtain ⟨hj, rfl⟩ := List.getElem?_eq_some_iff.1 hv
  simp only [List.length_map, List.length_range] at hj
  have := IsTab.cell h j hj
  simpa using this
set_option maxHeartbeats 2000000 in
set_option maxRecDepth 100000 in
theorem Copy_walk (w : World) (b : Nat) (M : Mac) (hm : IsMac w b M) :
    Calls Tryd.prog 13 #[.pointer (some ⟨b, 0, none⟩)] w fun e w' => ∃ q, e = .returned (.pointer (some ⟨q, 0, none⟩)) ∧ IsMac w' q M ∧ w.heap.size ≤ q ∧ Below w.heap.size w w' := by
  have HLM := Lib.hid (loadMac hm)
  have z9 := zeroMac' w
  have HPQ : Hid (IsMac (w.alloc (.cells (tab 8211 (mc M)) 37)) w.heap.size M ∧ Below w.heap.size w (w.alloc (.cells (tab 8211 (mc M)) 37))) := Lib.hid ⟨IsTab.new w _ 8211 _, ba _ _⟩
  obtain ⟨cm, hcm⟩ : ∃ cm, tab 8211 (mc M) = cm := ⟨_, rfl⟩
  have HCM := Lib.hid hcm
  rw [hcm] at HLM HPQ
  clear hcm hm
  generalize hzm : tab 8211 (mc m0) = zm at *
  have HZ : Hid (zm.size = 8211) := Lib.hid (by rw [← hzm, tab_size])
  clear hzm
  go_enter Tryd.func13, Tryd.ntmps13
  go_wp2_with (first
    | ((with_reducible refine wpList_loadE (P := Tryd.prog) (w := w) (ty := 37) (x := .tmp 7) (p := .pointer (some ⟨b, 0, none⟩)) (v := .agg cm) ?_ ?_ ?_ HLM.out ?_); (· exact rfl); (· exact rfl); (· exact rfl))
    | ((with_reducible refine wpList_store_row (P := Tryd.prog) (w := w.alloc (.cells zm 37)) ?_ 37 (.tmp 3) (.tmp 8) ?_ w.heap.size cm ?_ ?_ 37 zm (heap_alloc_last w _) ?_ ?_ ?_ ?_); (· exact rfl); (· exact rfl); (· exact rfl); (· exact rfl); (· rw [← HCM.out]; exact infM _); (· rw [← HCM.out, HZ.out, tab_size]); (· rw [← HCM.out]; exact one_mc' _); rw [World.setRow_alloc_new]; simp only [Act.put]))
  exact bodyPost_ret (v := .pointer (some ⟨w.heap.size, 0, none⟩)) (by simp [results, Tryd.results13, go_sem]) rfl ⟨w.heap.size, rfl, HPQ.out.1, Nat.le_refl _, HPQ.out.2⟩
set_option maxHeartbeats 2000000 in
set_option maxRecDepth 100000 in
theorem Write_far (w : World) (r : Hx) (i v0 v : Int) (n c : Nat) (a : Option Addr) (h : 8192 ≤ i) :
    Calls Tryd.prog 19 #[.agg (tab 32 fun i => bv (r i)), .int .u64 i, .agg #[.int .u64 v0, .slice a n c], .int .u64 v] w fun e w' => e = .returned (.tuple #[dv (Mk.zero 0), .iface 85 (.int .i64 2)]) ∧ Below w.heap.size w w' := by
  have z2 := zeroHash
  have HBH := Lib.hid (fun u : World => buildH0 u)
  generalize hz : (tab 32 fun _ => bv 0#8) = zh at *
  have HZ := Lib.hid hz
  clear hz
  have HZI : Hid ((Tryd.prog.info? 42).map (·.size) = some zh.size ∧ zh.all (·.oneCell') = true ∧ zh.size = 32) := Lib.hid ⟨by rw [← HZ.out]; exact infH _, by rw [← HZ.out]; exact one_bv _ _, by rw [← HZ.out, tab_size]⟩
  have HW : Hid (IsTab (((w.alloc (.cells (tab 32 fun i => bv (r i)) 42)).alloc (.cells #[.int .u64 v0, .slice a n c] 54)).alloc (.cells zh 42)) w.heap.size 42 32 (fun i => bv (r i)) ∧ Box2 (((w.alloc (.cells (tab 32 fun i => bv (r i)) 42)).alloc (.cells #[.int .u64 v0, .slice a n c] 54)).alloc (.cells zh 42)) (w.heap.size + 1) 54 (.int .u64 v0) (.slice a n c) ∧ IsTab (((w.alloc (.cells (tab 32 fun i => bv (r i)) 42)).alloc (.cells #[.int .u64 v0, .slice a n c] 54)).alloc (.cells zh 42)) (w.heap.size + 1 + 1) 42 32 (fun _ => bv 0#8) ∧ Below w.heap.size w (((w.alloc (.cells (tab 32 fun i => bv (r i)) 42)).alloc (.cells #[.int .u64 v0, .slice a n c] 54)).alloc (.cells zh 42))) := Lib.hid (by
    have e1 : (w.alloc (.cells (tab 32 fun i => bv (r i)) 42)).heap.size = w.heap.size + 1 := by simp
    have e2 : ((w.alloc (.cells (tab 32 fun i => bv (r i)) 42)).alloc (.cells #[.int .u64 v0, .slice a n c] 54)).heap.size = w.heap.size + 1 + 1 := by simp
    refine ⟨((IsTab.new w 42 32 _).alloc _).alloc _, ?_, ?_, ((ba _ _).alloc (by simp) _).alloc (by simp; omega) _⟩
    · have h := Box2.new (w.alloc (.cells (tab 32 fun i => bv (r i)) 42)) 54 (.int .u64 v0) (.slice a n c)
      rw [e1] at h; exact IsTab.alloc h _
    · have h := put_new ((w.alloc (.cells (tab 32 fun i => bv (r i)) 42)).alloc (.cells #[.int .u64 v0, .slice a n c] 54)) (fun _ => 0#8) zh HZ.out
      rw [e2] at h; exact h)
  have HQL : Hid (w.heap.size < w.heap.size + 1 ∧ w.heap.size < w.heap.size + 1 + 1) := Lib.hid (by omega)
  have HHY := Lib.hid h
  clear h
  go_enter Tryd.func19, Tryd.ntmps19
  go_upto_region 1 with (fail)
  generalize ((w.alloc (.cells (tab 32 fun i => bv (r i)) 42)).alloc (.cells #[.int .u64 v0, .slice a n c] 54)).alloc (.cells zh 42) = y0 at *
  generalize w.heap.size + 1 + 1 = q8 at *
  generalize w.heap.size + 1 = q6 at *
  generalize hq : w.heap.size = q4 at *
  have HQ := Lib.hid hq
  clear hq
  have HL4 := Lib.hid (load32h HW.out.1)
  have HL6 := Lib.hid (loadPt HW.out.2.1)
  have HH := Lib.hid (Holds_far y0 r i v0 n c a HHY.out)
  go_wp2_with (first
    | ((with_reducible refine wpList_loadE (P := Tryd.prog) (w := y0) (ty := 42) (x := .tmp 4) (p := .pointer (some ⟨q4, 0, none⟩)) (v := dv r) ?_ ?_ ?_ HL4.out ?_); (· exact rfl); (· exact rfl); (· exact rfl))
    | ((with_reducible refine wpList_loadE (P := Tryd.prog) (w := y0) (ty := 54) (x := .tmp 6) (p := .pointer (some ⟨q6, 0, none⟩)) (v := .agg #[.int .u64 v0, .slice a n c]) ?_ ?_ ?_ HL6.out ?_); (· exact rfl); (· exact rfl); (· exact rfl))
    | (go_at_call 35; (refine HH.out.mono ?_); rintro e y1 ⟨he, hb⟩; obtain rfl : e = _ := he; have H1 : Hid ((IsTab y1 q8 42 32 fun _ => bv 0#8) ∧ Below q4 w y1) := Lib.hid ⟨HW.out.2.2.1.below hb, HW.out.2.2.2.trans (hb.mono (by have := HW.out.1.lt; omega))⟩; clear hb HH)
    | ((with_reducible refine wpList_buildM (P := Tryd.prog) (w := y1) ?_ 42 ?_ (.agg zh) (HBH.out y1) ?_); (· exact rfl); (· exact rfl))
    | ((with_reducible refine wpList_store_row (P := Tryd.prog) (w := y1) ?_ 42 (.tmp 8) (.tmp 21) ?_ q8 zh ?_ ?_ 42 (tab 32 fun _ => bv 0#8) ?_ HZI.out.1 ?_ HZI.out.2.1 ?_); (· exact rfl); (· exact rfl); (· exact rfl); (· exact rfl); (· exact H1.out.1); (· rw [HZI.out.2.2, tab_size])))
  have hr : IsTab (World.setRow y1 q8 zh) q8 42 32 fun j => bv (Mk.zero 0 j) := by
    have h := IsTab.row (g := fun _ => bv 0#8) H1.out.1
    rw [HZ.out] at h
    exact h
  exact bodyPost_ret (Kc.results_cell_tmp rfl _ _ q8 42 _ (0, 0) _ rfl hr undH rfl (infH _) (.iface 85 (.int .i64 2)) rfl) rfl ⟨rfl, by rw [HQ.out]; exact below_setRow H1.out.2 (by have := HQL.out; omega) _⟩
set_option maxHeartbeats 2000000 in
set_option maxRecDepth 100000 in
theorem Write_no (w : World) (r : Hx) (i v0 n c : Nat) (v : Int) (a : Option Addr) (p : Nat → Hx) (hs : IsHs w a 13 p) (hc : 13 ≤ c) (hi : i < 8192) (hv : v0 < 18446744073709551616) (ht : Laid.KTab w) (hn : n = 13) (hh : same32 (fold i (lfX v0) p 13) r = false) :
    Calls Tryd.prog 19 #[.agg (tab 32 fun i => bv (r i)), .int .u64 i, .agg #[.int .u64 v0, .slice a n c], .int .u64 v] w fun e w' => e = .returned (.tuple #[dv (Mk.zero 0), .iface 85 (.int .i64 31)]) ∧ Below w.heap.size w w' := by
  subst hn
  have z2 := zeroHash
  have HBH := Lib.hid (fun u : World => buildH0 u)
  generalize hz : (tab 32 fun _ => bv 0#8) = zh at *
  have HZ := Lib.hid hz
  clear hz
  have HZI : Hid ((Tryd.prog.info? 42).map (·.size) = some zh.size ∧ zh.all (·.oneCell') = true ∧ zh.size = 32) := Lib.hid ⟨by rw [← HZ.out]; exact infH _, by rw [← HZ.out]; exact one_bv _ _, by rw [← HZ.out, tab_size]⟩
  have HW : Hid (IsTab (((w.alloc (.cells (tab 32 fun i => bv (r i)) 42)).alloc (.cells #[.int .u64 v0, .slice a 13 c] 54)).alloc (.cells zh 42)) w.heap.size 42 32 (fun i => bv (r i)) ∧ Box2 (((w.alloc (.cells (tab 32 fun i => bv (r i)) 42)).alloc (.cells #[.int .u64 v0, .slice a 13 c] 54)).alloc (.cells zh 42)) (w.heap.size + 1) 54 (.int .u64 v0) (.slice a 13 c) ∧ IsTab (((w.alloc (.cells (tab 32 fun i => bv (r i)) 42)).alloc (.cells #[.int .u64 v0, .slice a 13 c] 54)).alloc (.cells zh 42)) (w.heap.size + 1 + 1) 42 32 (fun _ => bv 0#8) ∧ Below w.heap.size w (((w.alloc (.cells (tab 32 fun i => bv (r i)) 42)).alloc (.cells #[.int .u64 v0, .slice a 13 c] 54)).alloc (.cells zh 42))) := Lib.hid (by
    have e1 : (w.alloc (.cells (tab 32 fun i => bv (r i)) 42)).heap.size = w.heap.size + 1 := by simp
    have e2 : ((w.alloc (.cells (tab 32 fun i => bv (r i)) 42)).alloc (.cells #[.int .u64 v0, .slice a 13 c] 54)).heap.size = w.heap.size + 1 + 1 := by simp
    refine ⟨((IsTab.new w 42 32 _).alloc _).alloc _, ?_, ?_, ((ba _ _).alloc (by simp) _).alloc (by simp; omega) _⟩
    · have h := Box2.new (w.alloc (.cells (tab 32 fun i => bv (r i)) 42)) 54 (.int .u64 v0) (.slice a 13 c)
      rw [e1] at h; exact IsTab.alloc h _
    · have h := put_new ((w.alloc (.cells (tab 32 fun i => bv (r i)) 42)).alloc (.cells #[.int .u64 v0, .slice a 13 c] 54)) (fun _ => 0#8) zh HZ.out
      rw [e2] at h; exact h)
  have HQL : Hid (w.heap.size < w.heap.size + 1 ∧ w.heap.size < w.heap.size + 1 + 1) := Lib.hid (by omega)
  have HHY := Lib.hid (And.intro hs (And.intro hc (And.intro hi (And.intro hv (And.intro ht hh)))))
  clear hs hc hi hv ht hh
  go_enter Tryd.func19, Tryd.ntmps19
  go_upto_region 1 with (fail)
  generalize ((w.alloc (.cells (tab 32 fun i => bv (r i)) 42)).alloc (.cells #[.int .u64 v0, .slice a 13 c] 54)).alloc (.cells zh 42) = y0 at *
  generalize w.heap.size + 1 + 1 = q8 at *
  generalize w.heap.size + 1 = q6 at *
  generalize hq : w.heap.size = q4 at *
  have HQ := Lib.hid hq
  clear hq
  have HL4 := Lib.hid (load32h HW.out.1)
  have HL6 := Lib.hid (loadPt HW.out.2.1)
  have hho := Holds_ok y0 r i v0 c a p (HHY.out.1.below (HQ.out ▸ HW.out.2.2.2)) HHY.out.2.1 HHY.out.2.2.1 HHY.out.2.2.2.1 (ktab_below HHY.out.2.2.2.2.1 (HQ.out ▸ HW.out.2.2.2))
  rw [HHY.out.2.2.2.2.2] at hho
  have HH := Lib.hid hho
  clear hho
  go_wp2_with (first
    | ((with_reducible refine wpList_loadE (P := Tryd.prog) (w := y0) (ty := 42) (x := .tmp 4) (p := .pointer (some ⟨q4, 0, none⟩)) (v := dv r) ?_ ?_ ?_ HL4.out ?_); (· exact rfl); (· exact rfl); (· exact rfl))
    | ((with_reducible refine wpList_loadE (P := Tryd.prog) (w := y0) (ty := 54) (x := .tmp 6) (p := .pointer (some ⟨q6, 0, none⟩)) (v := .agg #[.int .u64 v0, .slice a 13 c]) ?_ ?_ ?_ HL6.out ?_); (· exact rfl); (· exact rfl); (· exact rfl))
    | (go_at_call 35; (refine HH.out.mono ?_); rintro e y1 ⟨he, hb⟩; obtain rfl : e = _ := he; have H1 : Hid ((IsTab y1 q8 42 32 fun _ => bv 0#8) ∧ Below q4 w y1) := Lib.hid ⟨HW.out.2.2.1.below hb, HW.out.2.2.2.trans (hb.mono (by have := HW.out.1.lt; omega))⟩; clear hb HH)
    | ((with_reducible refine wpList_buildM (P := Tryd.prog) (w := y1) ?_ 42 ?_ (.agg zh) (HBH.out y1) ?_); (· exact rfl); (· exact rfl))
    | ((with_reducible refine wpList_store_row (P := Tryd.prog) (w := y1) ?_ 42 (.tmp 8) (.tmp 25) ?_ q8 zh ?_ ?_ 42 (tab 32 fun _ => bv 0#8) ?_ HZI.out.1 ?_ HZI.out.2.1 ?_); (· exact rfl); (· exact rfl); (· exact rfl); (· exact rfl); (· exact H1.out.1); (· rw [HZI.out.2.2, tab_size])))
  have hr : IsTab (World.setRow y1 q8 zh) q8 42 32 fun j => bv (Mk.zero 0 j) := by
    have h := IsTab.row (g := fun _ => bv 0#8) H1.out.1
    rw [HZ.out] at h
    exact h
  exact bodyPost_ret (Kc.results_cell_tmp rfl _ _ q8 42 _ (0, 0) _ rfl hr undH rfl (infH _) (.iface 85 (.int .i64 31)) rfl) rfl ⟨rfl, by rw [HQ.out]; exact below_setRow H1.out.2 (by have := HQL.out; omega) _⟩
set_option maxHeartbeats 2000000 in
set_option maxRecDepth 100000 in
theorem Write_ok (w : World) (r : Hx) (i v0 v n c : Nat) (a : Option Addr) (p : Nat → Hx) (hs : IsHs w a 13 p) (hc : 13 ≤ c) (hi : i < 8192) (hv0 : v0 < 18446744073709551616) (hv : v < 18446744073709551616) (ht : Laid.KTab w) (hn : n = 13) (hh : same32 (fold i (lfX v0) p 13) r = true) :
    Calls Tryd.prog 19 #[.agg (tab 32 fun i => bv (r i)), .int .u64 i, .agg #[.int .u64 v0, .slice a n c], .int .u64 v] w fun e w' => e = .returned (.tuple #[dv (fold i (lfX v) p 13), .nilIface]) ∧ Below w.heap.size w w' := by
  subst hn
  have z2 := zeroHash
  have HBH := Lib.hid (fun u : World => buildH0 u)
  generalize hz : (tab 32 fun _ => bv 0#8) = zh at *
  have HZ := Lib.hid hz
  clear hz
  have HZI : Hid ((Tryd.prog.info? 42).map (·.size) = some zh.size ∧ zh.all (·.oneCell') = true ∧ zh.size = 32) := Lib.hid ⟨by rw [← HZ.out]; exact infH _, by rw [← HZ.out]; exact one_bv _ _, by rw [← HZ.out, tab_size]⟩
  have HW : Hid (IsTab (((w.alloc (.cells (tab 32 fun i => bv (r i)) 42)).alloc (.cells #[.int .u64 v0, .slice a 13 c] 54)).alloc (.cells zh 42)) w.heap.size 42 32 (fun i => bv (r i)) ∧ Box2 (((w.alloc (.cells (tab 32 fun i => bv (r i)) 42)).alloc (.cells #[.int .u64 v0, .slice a 13 c] 54)).alloc (.cells zh 42)) (w.heap.size + 1) 54 (.int .u64 v0) (.slice a 13 c) ∧ IsTab (((w.alloc (.cells (tab 32 fun i => bv (r i)) 42)).alloc (.cells #[.int .u64 v0, .slice a 13 c] 54)).alloc (.cells zh 42)) (w.heap.size + 1 + 1) 42 32 (fun _ => bv 0#8) ∧ Below w.heap.size w (((w.alloc (.cells (tab 32 fun i => bv (r i)) 42)).alloc (.cells #[.int .u64 v0, .slice a 13 c] 54)).alloc (.cells zh 42))) := Lib.hid (by
    have e1 : (w.alloc (.cells (tab 32 fun i => bv (r i)) 42)).heap.size = w.heap.size + 1 := by simp
    have e2 : ((w.alloc (.cells (tab 32 fun i => bv (r i)) 42)).alloc (.cells #[.int .u64 v0, .slice a 13 c] 54)).heap.size = w.heap.size + 1 + 1 := by simp
    refine ⟨((IsTab.new w 42 32 _).alloc _).alloc _, ?_, ?_, ((ba _ _).alloc (by simp) _).alloc (by simp; omega) _⟩
    · have h := Box2.new (w.alloc (.cells (tab 32 fun i => bv (r i)) 42)) 54 (.int .u64 v0) (.slice a 13 c)
      rw [e1] at h; exact IsTab.alloc h _
    · have h := put_new ((w.alloc (.cells (tab 32 fun i => bv (r i)) 42)).alloc (.cells #[.int .u64 v0, .slice a 13 c] 54)) (fun _ => 0#8) zh HZ.out
      rw [e2] at h; exact h)
  have HQL : Hid (w.heap.size < w.heap.size + 1 ∧ w.heap.size < w.heap.size + 1 + 1 ∧ w.heap.size + 1 ≠ w.heap.size + 1 + 1) := Lib.hid (by omega)
  have HHY := Lib.hid (And.intro hs (And.intro hc (And.intro hi (And.intro hv0 (And.intro ht hh)))))
  have HV := Lib.hid hv
  have HE1 : Hid (IntKind.i64.wrap (i : Int) = (i : Int)) := Lib.hid (by simp [IntKind.wrap, IntKind.bits, IntKind.signed, IntKind.min, IntKind.max]; omega)
  clear hs hc hi hv0 hv ht hh
  go_enter Tryd.func19, Tryd.ntmps19
  go_upto_region 1 with (fail)
  generalize ((w.alloc (.cells (tab 32 fun i => bv (r i)) 42)).alloc (.cells #[.int .u64 v0, .slice a 13 c] 54)).alloc (.cells zh 42) = y0 at *
  generalize w.heap.size + 1 + 1 = q8 at *
  generalize w.heap.size + 1 = q6 at *
  generalize hq : w.heap.size = q4 at *
  have HQ := Lib.hid hq
  clear hq
  have HL4 := Lib.hid (load32h HW.out.1)
  have HL6 := Lib.hid (loadPt HW.out.2.1)
  have HQL2 : Hid (q4 < q6 ∧ q4 < q8 ∧ q6 ≠ q8) := Lib.hid ⟨HQL.out.1, HQL.out.2.1, HQL.out.2.2⟩
  have hho := Holds_ok y0 r i v0 c a p (HHY.out.1.below (HQ.out ▸ HW.out.2.2.2)) HHY.out.2.1 HHY.out.2.2.1 HHY.out.2.2.2.1 (ktab_below HHY.out.2.2.2.2.1 (HQ.out ▸ HW.out.2.2.2))
  rw [HHY.out.2.2.2.2.2] at hho
  have HH := Lib.hid hho
  clear hho
  go_upto_region 6 with (first
    | ((with_reducible refine wpList_loadE (P := Tryd.prog) (w := y0) (ty := 42) (x := .tmp 4) (p := .pointer (some ⟨q4, 0, none⟩)) (v := dv r) ?_ ?_ ?_ HL4.out ?_); (· exact rfl); (· exact rfl); (· exact rfl))
    | ((with_reducible refine wpList_loadE (P := Tryd.prog) (w := y0) (ty := 54) (x := .tmp 6) (p := .pointer (some ⟨q6, 0, none⟩)) (v := .agg #[.int .u64 v0, .slice a 13 c]) ?_ ?_ ?_ HL6.out ?_); (· exact rfl); (· exact rfl); (· exact rfl))
    | (go_at_call 35; (refine HH.out.mono ?_); rintro e y1 ⟨he, hb⟩; obtain rfl : e = _ := he; have H1 : Hid (Box2 y1 q6 54 (.int .u64 v0) (.slice a 13 c) ∧ (IsTab y1 q8 42 32 fun _ => bv 0#8) ∧ Below y0.heap.size y0 y1 ∧ Below q4 w y1) := Lib.hid ⟨HW.out.2.1.below hb, HW.out.2.2.1.below hb, hb, HW.out.2.2.2.trans (hb.mono (by have := HW.out.1.lt; omega))⟩; clear hb HH))
  refine wp_region_og (fun z : World => z.cell? ⟨q6, 1, none⟩ = some (.slice a 13 c)) (.take 0 (.take 1 (.take 2 (.take 4 (.take 5 (.one 3 (.one 6 (.take 7 (.take 8 (.one 9 (.take 10 .done))))))))))) (by kernel_rfl) (by kernel_rfl) H1.out.1.k1 ?_
  have HY : Hid (Below y1.heap.size y1 y1.drew) := Lib.hid (Below.refl _ _).drew
  generalize y1.drew = y2 at *
  refine og_tk (some 27) (.int .u64 i) rfl rfl (by go_simp) (fun _ _ => by simp [execOp, go_sem]) ?_
  simp only [Act.put, pS]
  refine og_tk (some 28) (.int .i64 i) rfl rfl (by go_simp) (fun y hy => by have h := HE1.out; simp [execOp, go_sem, h, Result.andThen]) ?_
  simp only [Act.put, pS]
  refine og_tk (some 29) (.int .u64 v) rfl rfl (by go_simp) (fun _ _ => by simp [execOp, go_sem]) ?_
  simp only [Act.put, pS]
  refine og_tk (some 31) (.pointer (some ⟨q6, 1, none⟩)) rfl rfl (by go_simp) (fun _ _ => by simp [execOp, go_sem]) ?_
  simp only [Act.put, pS]
  refine og_ld (some 32) 52 (.tmp 31) (.pointer (some ⟨q6, 1, none⟩)) (.slice a 13 c) rfl rfl (by go_simp) rfl rfl (fun y hy => by have h := hy; simp [Instr.loadAt, go_sem, h, Tryd.underlying52]) ?_
  simp only [Act.put, pS]
  have HLF := Lib.hid (leaf_walk y2 v HV.out)
  refine og_f rfl (by go_simp) fun K hK => ?_
  go_simp
  refine HLF.out.mono ?_
  rintro e y3 ⟨he, hb⟩
  obtain rfl : e = _ := he
  have HY : Hid (Below y1.heap.size y1 y3) := Lib.hid (bl HY.out hb)
  refine hK _ _ (keep1 HY.out H1.out.1.k1) ?_
  clear hK K hb HLF
  try simp only [List.getElem_toArray, List.getElem_cons_succ, List.getElem_cons_zero, Act.put, pS]
  have HFO := Lib.hid (fold_ok i (lfX v) a 13 c p y3 (HHY.out.1.below (HQ.out ▸ (H1.out.2.2.2.trans (HY.out.mono (by have := H1.out.2.1.lt; have := HQL.out; omega))))) HHY.out.2.1 (by decide) HHY.out.2.2.1 (ktab_below HHY.out.2.2.2.2.1 (HQ.out ▸ (H1.out.2.2.2.trans (HY.out.mono (by have := H1.out.2.1.lt; have := HQL.out; omega))))))
  refine og_f rfl (by go_simp) fun K hK => ?_
  go_simp
  refine HFO.out.mono ?_
  rintro e y4 ⟨he, hb⟩
  obtain rfl : e = _ := he
  have HY : Hid (Below y1.heap.size y1 y4) := Lib.hid (bl HY.out hb)
  refine hK _ _ (keep1 HY.out H1.out.1.k1) ?_
  clear hK K hb HFO
  try simp only [List.getElem_toArray, List.getElem_cons_succ, List.getElem_cons_zero, Act.put, pS]
  refine og_tk (some 34) (dv (fold i (lfX v) p 13)) rfl rfl (by go_simp) (fun _ _ => by simp [execOp, go_sem]) ?_
  simp only [Act.put, pS]
  refine og_tk (some 35) (.nilIface) rfl rfl (by go_simp) (fun _ _ => by simp [execOp, go_sem]) ?_
  simp only [Act.put, pS]
  have HT8 := Lib.hid (H1.out.2.1.below HY.out)
  have HE : Hid (IsTab (y4.setRow q8 (tab 32 fun j => bv ((fold i (lfX v) p 13) j))) q8 42 32 (fun j => bv ((fold i (lfX v) p 13) j)) ∧ Below q4 w (y4.setRow q8 (tab 32 fun j => bv ((fold i (lfX v) p 13) j)))) := Lib.hid ⟨HT8.out.row, below_setRow (H1.out.2.2.2.trans (HY.out.mono (by have := H1.out.2.1.lt; have := HQL.out; omega))) (by have := HQL.out; omega) _⟩
  refine og_f rfl (by go_simp) fun K hK => ?_
  refine wp_store_row 42 (.tmp 8) (.tmp 34) rfl q8 (tab 32 fun j => bv ((fold i (lfX v) p 13) j)) rfl rfl 42 _ (HT8.out) (infH _) (by simp only [tab_size]) (one_bv _ _) ?_
  refine hK _ _ (by have h := keep1 HY.out H1.out.1.k1; rw [World.cell?_of_block (w := y4) (setRow_other _ _ _ _ (show q6 ≠ q8 from HQL2.out.2.2))]; exact h) ?_
  clear hK K
  try simp only [List.getElem_toArray, List.getElem_cons_succ, List.getElem_cons_zero, Act.put, pS]
  generalize y4.setRow q8 (tab 32 fun j => bv ((fold i (lfX v) p 13) j)) = y9 at *
  refine og_tk (some 9) (.nilIface) rfl rfl (by go_simp) (fun _ _ => by simp [execOp, go_sem]) ?_
  simp only [Act.put, pS]
  refine og_done (NoPanic.normal ?_)
  go_wp2_with (fail)
  exact bodyPost_ret (Kc.results_cell_tmp rfl _ _ q8 42 _ (0, 0) _ rfl HE.out.1 undH rfl (infH _) .nilIface rfl) rfl ⟨rfl, by rw [HQ.out]; exact HE.out.2⟩
end Co
end Go.Proofs.YtjfpbponjhpdhaaDoor
namespace Go.Proofs.YtjfpbponjhpdhaaDoor
open Go.RowKit Go.ChangeShapes
set_option linter.unusedVariables false
set_option linter.unusedSimpArgs false
namespace Co
open Kc Mk Vm
theorem mg_at (M : Mac) {k : Nat} (h : k < 8192) : mg M k = lfX (M.mem k) := ext_in _ h
theorem put_mg (M : Mac) {i : Nat} (hi : i < 8192) (v : Nat) : put (mg M) i (lfX v) = mg (setM M i v) := by
  funext k
  unfold put mg ext mlf setM
  by_cases e : k = i
  · subst e; simp [hi]
  · simp [e]
theorem own_fold (M : Mac) {i : Nat} (hi : i < 8192) : fold i (lfX (M.mem i)) (sib (mg M) i) 13 = mroot M := by
  have h := fold_own (g := mg M) (i := i) (d := 13) (p := sib (mg M) i) (by omega) (fun _ _ => rfl)
  rw [mg_at M hi] at h; exact h
theorem other_fold (M : Mac) {i : Nat} (hi : i < 8192) (v : Nat) : fold i (lfX v) (sib (mg M) i) 13 = mroot (setM M i v) := by
  have h := fold_other (g := mg M) (i := i) (d := 13) (p := sib (mg M) i) (lfX v) (by omega) (fun _ _ => rfl)
  rw [put_mg M hi] at h; exact h
theorem same_comm (x y : Hx) : same32 x y = same32 y x := by
  cases h : same32 x y with
  | true => exact ((same32_iff _ _).2 fun i hi => ((same32_iff _ _).1 h i hi).symm).symm
  | false =>
    cases h2 : same32 y x with
    | false => rfl
    | true =>
      rw [(same32_iff _ _).2 fun i hi => ((same32_iff _ _).1 h2 i hi).symm] at h
      exact h.symm
theorem mem_setM {M : Mac} (h : ∀ i, M.mem i < 18446744073709551616) (p : Nat) {v : Nat} (hv : v < 18446744073709551616) : ∀ i, (setM M p v).mem i < 18446744073709551616 := fun i => by
  show (if i = p then v else M.mem i) < _
  split
  · exact hv
  · exact h i
/-- What the closure's loop keeps. -/
structure Oc (W : World) (x : Nat) (M : Mac) (y : World) : Prop where
  mac : IsMac y x M
  below : Below W.heap.size W y
  ge : W.heap.size ≤ x
theorem Oc.next {W y y' : World} {x : Nat} {M : Mac} (h : Oc W x M y) (hb : Below y.heap.size y y') : Oc W x M y' := ⟨h.mac.below hb, bl h.below hb, h.ge⟩
end Co
end Go.Proofs.YtjfpbponjhpdhaaDoor
namespace Go.Proofs.YtjfpbponjhpdhaaDoor
open Go.RowKit
set_option linter.unusedVariables false
set_option linter.unusedSimpArgs false
namespace Co
open Kc Mk Vm
end Co
end Go.Proofs.YtjfpbponjhpdhaaDoor
namespace Go.Proofs.YtjfpbponjhpdhaaDoor
open Go.RowKit Go.ChangeShapes
set_option linter.unusedVariables false
set_option linter.unusedSimpArgs false
namespace Co
open Kc Mk Vm
/-- The cells that a slice of structs of integers holds. -/
theorem recs_cl {w : World} {a0 : Option Addr} {n c : Nat} (h : IsRecs [.u64, .u64] w a0 n c) : ∃ f : Nat → Nat × Nat, n ≤ maxLen ∧ IsCl w a0 n f ∧ ∀ j, (f j).1 < 18446744073709551616 ∧ (f j).2 < 18446744073709551616 := by
  rcases h with ⟨rfl, rfl, rfl⟩ | ⟨h1, h2, h3⟩
  · exact ⟨fun _ => (0, 0), by unfold maxLen; omega, .inl rfl, fun _ => ⟨by show (0 : Nat) < _; decide, by show (0 : Nat) < _; decide⟩⟩
  rcases Nat.eq_zero_or_pos n with h0 | h0
  · exact ⟨fun _ => (0, 0), by omega, .inl h0, fun _ => ⟨by show (0 : Nat) < _; decide, by show (0 : Nat) < _; decide⟩⟩
  obtain ⟨b, o, rfl, _⟩ := h3 0 h0
  have hx : ∀ i, ∃ x : Nat × Nat, (i < n → w.cell? ⟨b, o + i * 2, none⟩ = some (.int .u64 x.1) ∧ w.cell? ⟨b, o + i * 2 + 1, none⟩ = some (.int .u64 x.2)) ∧ x.1 < 18446744073709551616 ∧ x.2 < 18446744073709551616 := fun i => by
    by_cases hi : i < n
    · obtain ⟨c1, o1, e, hc⟩ := h3 i hi
      obtain ⟨rfl, rfl⟩ : c1 = b ∧ o1 = o := by simpa [eq_comm] using e
      obtain ⟨z0, e0, w0⟩ := hc 0 .u64 rfl
      obtain ⟨z1, e1, w1⟩ := hc 1 .u64 rfl
      have p0 : 0 ≤ z0 := (of_decide_eq_true (Bool.and_eq_true_iff.1 w0).1)
      have p1 : z0 ≤ 18446744073709551615 := (of_decide_eq_true (Bool.and_eq_true_iff.1 w0).2)
      have p2 : 0 ≤ z1 := (of_decide_eq_true (Bool.and_eq_true_iff.1 w1).1)
      have p3 : z1 ≤ 18446744073709551615 := (of_decide_eq_true (Bool.and_eq_true_iff.1 w1).2)
      obtain ⟨r, rfl⟩ : ∃ r : Nat, z0 = r := ⟨z0.toNat, by omega⟩
      obtain ⟨s, rfl⟩ : ∃ r : Nat, z1 = r := ⟨z1.toNat, by omega⟩
      exact ⟨(r, s), fun _ => ⟨e0, e1⟩, by show r < _; omega, by show s < _; omega⟩
    · exact ⟨(0, 0), fun h => absurd h hi, by decide, by decide⟩
  obtain ⟨f, hf⟩ := Classical.axiomOfChoice hx
  exact ⟨f, by omega, .inr ⟨b, o, rfl, fun j hj => (hf j).1 hj⟩, fun j => (hf j).2⟩
theorem layC_lt (f : Nat → Nat × Nat) (hf : ∀ j, (f j).1 < 18446744073709551616 ∧ (f j).2 < 18446744073709551616) : ∀ n i, (layC f n (loaded 0 fun _ => 0)).mem i < 18446744073709551616
  | 0, i => by show (if i < 0 then 0 else 0) < _; split <;> decide
  | n + 1, i => mem_setM (layC_lt f hf n) _ (hf n).2 i
/-- What the law keeps. -/
structure Ow (W : World) (b q4 q5 q7 X1 V1 X2 V2 : Nat) (M : Mac) (y : World) : Prop where
  mac : IsMac y b M
  b4 : Box2 y q4 112 (.int .u64 X1) (.int .u64 V1)
  b5 : Box2 y q5 112 (.int .u64 X2) (.int .u64 V2)
  c7 : y.cell? ⟨q7, 0, none⟩ = some (.pointer (some ⟨b, 0, none⟩))
  below : Below W.heap.size W y
  ge : W.heap.size ≤ b
  ne : b ≠ q4 ∧ b ≠ q5 ∧ b ≠ q7
theorem Ow.next {W y y' : World} {b q4 q5 q7 X1 V1 X2 V2 : Nat} {M : Mac} (h : Ow W b q4 q5 q7 X1 V1 X2 V2 M y) (hb : Below y.heap.size y y') : Ow W b q4 q5 q7 X1 V1 X2 V2 M y' := ⟨h.mac.below hb, h.b4.below hb, h.b5.below hb, keep1 hb h.c7, bl h.below hb, h.ge, h.ne⟩
theorem Ow.set {W y : World} {b q4 q5 q7 X1 V1 X2 V2 : Nat} {M : Mac} (h : Ow W b q4 q5 q7 X1 V1 X2 V2 M y) {p : Nat} (hp : p < 8192) (v : Nat) : Ow W b q4 q5 q7 X1 V1 X2 V2 (setM M p v) (y.setCell ⟨b, p, none⟩ (.int .u64 (v : Int))) :=
  ⟨h.mac.setMem hp v, IsTab.keep h.b4 (Ne.symm h.ne.1), IsTab.keep h.b5 (Ne.symm h.ne.2.1), by rw [cell_setN (Ne.symm h.ne.2.2)]; exact h.c7, h.below.setCell h.ge _, h.ge, h.ne⟩
theorem row_apart {w : World} {q b : Nat} {a : Option Addr} {c : Nat} {xs : List Value} (h : w.ownsRow q 42 32 (.slice a 13 c) 13 xs) (hb : b < q) : ∀ x o, a = some ⟨x, o, none⟩ → x ≠ b := fun x o e => by
  rcases ownsRow_forms h with ⟨h, _⟩ | ⟨g, cap, h, hg, _⟩
  · have := (Value.slice.inj h).1
    rw [e] at this; cases this
  · have := (Value.slice.inj h).1
    rw [e] at this
    cases this; omega
end Co
end Go.Proofs.YtjfpbponjhpdhaaDoor
namespace Go.Proofs.YtjfpbponjhpdhaaDoor
open Go.RowKit
set_option linter.unusedVariables false
namespace Co
open Kc Mk Vm
theorem us_of_row {w : World} {a : Option Addr} {n c : Nat} {zs : List Int} (h : IsRow .u64 w a n c zs) : ∃ g : Nat → Nat, n ≤ maxLen ∧ IsUs w a n g ∧ ∀ i, g i < 18446744073709551616 := by
  rcases h with ⟨rfl, rfl, _, _⟩ | ⟨x, rfl, hl, hm, hz, hc, hw⟩
  · exact ⟨fun _ => 0, by unfold maxLen; omega, .inl rfl, fun _ => by show (0 : Nat) < _; decide⟩
  have hb : ∀ i, 0 ≤ zs.getD i 0 ∧ zs.getD i 0 ≤ 18446744073709551615 := fun i => by
    rw [List.getD_eq_getElem?_getD]
    cases h : zs[i]? with
    | none => exact ⟨by decide, by decide⟩
    | some z =>
      have h2 := hw z (List.mem_of_getElem? h)
      exact ⟨of_decide_eq_true (Bool.and_eq_true_iff.1 h2).1, of_decide_eq_true (Bool.and_eq_true_iff.1 h2).2⟩
  refine ⟨fun i => (zs.getD i 0).toNat, by omega, ?_, fun i => by have := hb i; show (zs.getD i 0).toNat < _; omega⟩
  rcases Nat.eq_zero_or_pos n with h0 | h0
  · exact .inl h0
  obtain ⟨b, o, spot⟩ := x
  have hspot : spot = none := by
    have h1 := hc 0 (by omega)
    simpa [Addr.add] using World.cell?_spot h1
  subst hspot
  refine .inr ⟨b, o, rfl, fun j hj => ?_⟩
  have h1 := hc j (by omega)
  rw [add_at] at h1
  rw [h1]
  have := (hb j).1
  show some (Value.int .u64 (zs.getD j 0)) = some (.int .u64 (((zs.getD j 0).toNat : Nat) : Int))
  rw [Int.toNat_of_nonneg this]
end Co
end Go.Proofs.YtjfpbponjhpdhaaDoor
namespace Go.Proofs.YtjfpbponjhpdhaaDoor
open Go.RowKit
set_option linter.unusedVariables false
set_option linter.unusedSimpArgs false
namespace Co
open Kc Mk Vm
theorem infRr (g : Nat → Value) : (Tryd.prog.info? 41).map (·.size) = some (tab 32 g).size := by rw [tab_size]; exact infR
theorem undRr : Tryd.prog.underlying 41 = some (.array 32 5) := by kernel_rfl
set_option maxHeartbeats 2000000 in
set_option maxRecDepth 100000 in
theorem rleaf_walk (w : World) (v : Nat) (hv : v < 18446744073709551616) :
    Calls Tryd.prog 47 #[.int .u64 v] w fun e w' => e = .returned (dv (lfX v)) ∧ Below w.heap.size w w' := by
  have HV := Lib.hid hv
  clear hv
  have z2 := zero26
  generalize hz : (tab 32 fun _ => bv 0#8) = zh at *
  have HZ := Lib.hid hz
  clear hz
  go_enter Tryd.func47, Tryd.ntmps47
  go_upto_region 2 with (fail)
  have H1 : Hid (IsTab ((w.alloc (.cells zh 41)).alloc (.cells zh 41)) (w.heap.size + 1) 41 32 (fun _ => bv 0#8) ∧ IsTab ((w.alloc (.cells zh 41)).alloc (.cells zh 41)) w.heap.size 41 32 (fun _ => bv 0#8) ∧ Below w.heap.size w ((w.alloc (.cells zh 41)).alloc (.cells zh 41))) := Lib.hid (by
    have e1 : (w.alloc (.cells zh 41)).heap.size = w.heap.size + 1 := by simp
    have t6 := put_newR (w.alloc (.cells zh 41)) zh HZ.out
    rw [e1] at t6
    exact ⟨t6, (put_newR w zh HZ.out).alloc _, ((Below.refl _ _).alloc (Nat.le_refl _) _).alloc (by simp) _⟩)
  generalize (w.alloc (.cells zh 41)).alloc (.cells zh 41) = y0 at *
  generalize hq1 : w.heap.size + 1 = q1 at *
  generalize hq : w.heap.size = q0 at *
  have HQ := Lib.hid (And.intro hq hq1)
  clear hq hq1
  go_upto_region 3 with (fail)
  have HP : Hid (Rl.Put y0 q1 41 32 (Rl.putv (fun _ => bv 0#8) 3 v 0) y0) := Lib.hid ⟨by rw [Rl.putv_zero]; exact H1.out.1, Kept.refl _ _⟩
  go_loopw [4] (fun i y => ∃ j : Nat, i = .int .i64 j ∧ Hid (j ≤ 8 ∧ Rl.Put y0 q1 41 32 (Rl.putv (fun _ => bv 0#8) 3 v j) y)) (fun i _ => 8 - (intOf i).toNat)
  case atStart => exact ⟨0, rfl, Lib.hid ⟨Nat.zero_le _, HP.out⟩⟩
  case round =>
    obtain ⟨j, rfl, hp⟩ := hrel
    have HR := Lib.hid hp.out
    clear hp HP
    by_cases hlt : (j : Int) < 8
    · have x1 := HR.out.2.row.cell (24 + j) (by omega)
      have x2 := HR.out.2.row.fz (24 + j)
      have HJ := Lib.hid (And.intro (show j < 8 by omega) (show wrap64 ((j : Int) + 1) = ((j + 1 : Nat) : Int) by unfold wrap64; omega))
      obtain ⟨J, hJ⟩ : ∃ J, 24 + j = J := ⟨_, rfl⟩
      rw [hJ] at x1 x2
      have e2 : wrap64 (24 + (j : Int)) = (J : Int) := by unfold wrap64; omega
      have e3 : wrap64 (8 * (j : Int)) = ((8 * j : Nat) : Int) := by unfold wrap64; omega
      have e4 : wrap64 (56 - ((8 * j : Nat) : Int)) = ((56 - 8 * j : Nat) : Int) := by unfold wrap64; omega
      have e5 : (J : Int) < 32 := by omega
      go_wp2_with (fail)
      go_roundw
      case rel =>
        refine ⟨j + 1, by go_num, Lib.hid ⟨HJ.out.1, ?_⟩⟩
        have h9 := HR.out.2.set (8 * 3 + j) (Rl.ub (Rl.byteOf v j))
        rw [Rl.putv_next, show 8 * 3 + j = J from by omega] at h9
        have e9 : Rl.ub (Rl.byteOf v j) = .int .u8 ((v : Int) / 2 ^ (56 - 8 * j) % 256) := by unfold Rl.ub Rl.byteOf; push_cast; rfl
        rw [← e9]; exact h9
      case measure => simp [intOf]; omega
    · obtain rfl : j = 8 := by have := HR.out.1; omega
      have H2 : Hid (IsTab wr q1 41 32 (fun j => bv (lfX v j)) ∧ IsTab wr q0 41 32 (fun _ => bv 0#8) ∧ Below q0 w wr) := Lib.hid ⟨HR.out.2.row.cong fun j _ => put_lf v j, (HR.out.2.kept.block q0 H1.out.2.1.lt (by have := HQ.out; omega)).trans H1.out.2.1, H1.out.2.2.trans (HR.out.2.kept.below (by have := H1.out.2.2.size; have := HQ.out; omega) fun k _ hk => by rw [hk]; have := HQ.out; omega)⟩
      clear H1 HR
      have D := Lib.hid (load32r H2.out.1)
      go_wp2_with (first
        | ((with_reducible refine wpList_loadE (P := Tryd.prog) (w := wr) (ty := 41) (x := .tmp 3) (p := .pointer (some ⟨q1, 0, none⟩)) (v := dv (lfX v)) ?_ ?_ ?_ D.out ?_); (· exact rfl); (· exact rfl); (· exact rfl))
        | ((with_reducible refine wpList_store_row (P := Tryd.prog) (w := wr) ?_ 41 (.tmp 2) (.tmp 19) ?_ q0 (tab 32 fun i => bv (lfX v i)) ?_ ?_ 41 (tab 32 fun _ => bv 0#8) ?_ (infRr _) ?_ (one_bv _ _) ?_); (· exact rfl); (· exact rfl); (· exact rfl); (· exact rfl); (· exact H2.out.2.1); (· rw [tab_size, tab_size])))
      have hr : IsTab (World.setRow wr q0 (tab 32 fun j => bv (lfX v j))) q0 41 32 fun j => bv (lfX v j) := H2.out.2.1.row
      exact bodyPost_ret (results_cell_row rfl _ _ q0 41 _ (0, 0) _ rfl hr undRr rfl (infRr _)) rfl ⟨rfl, by rw [HQ.out.1]; exact below_setRow H2.out.2.2 (Nat.le_refl _) _⟩
set_option maxHeartbeats 8000000 in
set_option maxRecDepth 100000 in
theorem ext_less (f : Nat → Hx) (n m : Nat) (h : n ≤ m) (hz : ∀ k, n ≤ k → k < m → f k = Mk.zero 0) : ext n f = ext m f := by
  funext k
  unfold ext
  by_cases h1 : k < n
  · rw [if_pos h1, if_pos (by omega)]
  · rw [if_neg h1]
    by_cases h2 : k < m
    · rw [if_pos h2, hz k (by omega) h2]
    · rw [if_neg h2]
theorem rleaves_in (w : World) (qm N : Nat) (hN : N = 8192) (M : Mac) (hm : IsTab w qm 33 8192 (uv M.mem)) (hok : ∀ i, M.mem i < 18446744073709551616) :
    Calls Tryd.prog 22 #[.slice (some ⟨qm, 0, none⟩) N N] w fun e w' => ∃ a n c, e = .returned (.slice a n c) ∧ IsHs w' a n (mlf M) ∧ n ≤ c ∧ n ≤ 8192 ∧ ext n (mlf M) = mg M ∧ Below w.heap.size w w' := by
  have HM := Lib.hid hm
  have HO := Lib.hid hok
  have HN := Lib.hid hN
  clear hN
  obtain ⟨i0, hi0, hi1, hi2, hi3⟩ := infRs
  have HI := Lib.hid (And.intro hi0 (And.intro hi1 (And.intro hi2 hi3)))
  clear hm hok hi0 hi1 hi2 hi3
  go_enter Tryd.func22, Tryd.ntmps22
  go_upto_region 3 with (fail)
  have HS : Hid (IsTab w qm 33 8192 (uv M.mem) ∧ Below w.heap.size w w) := Lib.hid ⟨HM.out, Below.refl _ _⟩
  go_loopw [3, 4] (fun tv t y => ∃ L r : Nat, tv = .int .i64 L ∧ t = .int .i64 r ∧ Hid (r ≤ N ∧ L ≤ r ∧ (∀ k, L ≤ k → k < r → M.mem k = 0) ∧ IsTab y qm 33 8192 (uv M.mem) ∧ Below w.heap.size w y)) (fun _ t _ => N - (intOf t).toNat)
  case atStart => exact ⟨0, 0, rfl, rfl, Lib.hid ⟨Nat.zero_le _, Nat.le_refl _, fun k h1 h2 => absurd h2 (Nat.not_lt_zero _), HS.out⟩⟩
  case round =>
    obtain ⟨L, r, rfl, rfl, hp⟩ := hrel
    have HP := Lib.hid hp.out
    clear hp HS
    by_cases hlt : (r : Int) < (N : Int)
    · have hr : r < 8192 := by have := HN.out; omega
      have HJ : Hid (r + 1 ≤ N ∧ wrap64 ((r : Int) + 1) = ((r + 1 : Nat) : Int)) := Lib.hid ⟨by have := HN.out; omega, by have := HN.out; unfold wrap64; omega⟩
      have hk : wr.cell? ⟨qm, r, none⟩ = some (.int .u64 (M.mem r)) := IsTab.cell HP.out.2.2.2.1 r hr
      have hw1 := HJ.out.2
      by_cases hx : M.mem r = 0
      · rw [hx] at hk
        have HX := Lib.hid hx
        clear hx hr
        go_wp2_with (fail)
        go_roundw
        case rel => exact ⟨L, r + 1, rfl, by go_num, Lib.hid ⟨HJ.out.1, by have := HP.out.2.1; omega, fun k h1 h2 => by
          rcases Nat.lt_or_ge k r with h | h
          · exact HP.out.2.2.1 k h1 h
          · obtain rfl : k = r := by omega
            exact HX.out, HP.out.2.2.2.1, HP.out.2.2.2.2⟩⟩
        case measure => rw [hw1]; exact (show N - (r + 1) < N - r from Nat.sub_lt_sub_left (by omega) (Nat.lt_succ_self r))
      · generalize M.mem r = x at *
        have t1 : (((x : Nat) : Int) == 0) = false := by simp; omega
        have t2 : ¬ (((x : Nat) : Int) = 0) := by omega
        clear hx hr
        go_wp2_with (fail)
        go_roundw
        case rel => exact ⟨r + 1, r + 1, by go_num, by go_num, Lib.hid ⟨HJ.out.1, Nat.le_refl _, fun k h1 h2 => by omega, HP.out.2.2.2.1, HP.out.2.2.2.2⟩⟩
        case measure => rw [hw1]; exact (show N - (r + 1) < N - r from Nat.sub_lt_sub_left (by omega) (Nat.lt_succ_self r))
    · obtain rfl : N = r := by have := HP.out.1; have := HN.out; omega
      go_upto_region 9 with (fail)
      have HP0 : Hid (Pg wr (mlf M) 0 (.slice none 0 0) wr) := Lib.hid ⟨World.ownsRow_nil _ _ _ _, Below.refl _ _⟩
      generalize wr = y1 at *
      have HL : Hid ((L : Int) ≤ (N : Int)) := Lib.hid (by have := HP.out.2.1; omega)
      have hL := HL.out
      clear hlt
      go_loopw [5, 6] (fun tv t y => ∃ r : Nat, r ≤ L ∧ t = .int .i64 r ∧ Hid (Pg y1 (mlf M) r tv y)) (fun _ t _ => L - (intOf t).toNat)
      case atStart => exact ⟨0, Nat.zero_le _, rfl, HP0⟩
      case round =>
        obtain ⟨r, hr, rfl, hp⟩ := hrel
        clear HP0
        generalize u5 = V at *
        by_cases hlt2 : (r : Int) < (L : Int)
        · have hr2 : r < 8192 := by have := HN.out; have := HL.out; omega
          have hk : wr.cell? ⟨qm, r, none⟩ = some (.int .u64 (M.mem r)) := IsTab.cell (HP.out.2.2.2.1.below (hp.out.below.mono (Nat.le_refl _))) r hr2
          have hr3 : (r : Int) < (N : Int) := by have := HN.out; omega
          have HJ : Hid (r + 1 ≤ L ∧ wrap64 ((r : Int) + 1) = ((r + 1 : Nat) : Int)) := Lib.hid ⟨by omega, by have := HN.out; unfold wrap64; omega⟩
          have hw1 := HJ.out.2
          have HUN := Lib.hid (rleaf_walk wr (M.mem r) (HO.out r))
          have e0 : lfX (M.mem r) = mlf M r := rfl
          rw [e0] at HUN
          generalize hx : mlf M r = x at *
          have HX := Lib.hid hx
          clear hx e0
          have H32 : Hid (0 < 32) := Lib.hid (by decide)
          have hlb : Hid (r + 1 ≤ maxLen ∧ (r + 1) * 32 ≤ 140737488355328) := Lib.hid ⟨by have := HN.out; unfold maxLen; omega, by have := HN.out; omega⟩
          clear hr2
          generalize M.mem r = mv at *
          go_upto_region 10 with (first
            | (go_at_call 47; (with_reducible refine HUN.out.mono ?_); rintro e y2 ⟨he, hb⟩; obtain rfl : e = _ := he; have H2 := Lib.hid (hp.out.next hb); have HBD := Lib.hid (buildR x y2); have HSR := Lib.hid (src1R y2 x); have HOW := Lib.hid (H2.out.row.alloc (.cells (tab 32 fun j => bv (x j)) 41)); have HBS : Hid (y1.heap.size ≤ (y2.alloc (.cells (tab 32 fun j => bv (x j)) 41)).heap.size) := Lib.hid (by have := H2.out.below.size; simp; omega); clear hb)
            | ((with_reducible refine wpList_build1 (P := Tryd.prog) (w := y2) (t := 65) (x := .tmp 30) (p := dv x) (v := .slice (some ⟨y2.heap.size, 0, none⟩) 1 1) (w' := y2.alloc (.cells (tab 32 fun j => bv (x j)) 41)) ?_ ?_ ?_ HBD.out ?_); (· exact rfl); (· exact rfl); (· exact rfl))
            | (at_builtin; (with_reducible refine wpList_append_any (P := Tryd.prog) (w := y2.alloc (.cells (tab 32 fun j => bv (x j)) 41)) ?_ (.tmp 25) (.tmp 31) 65 ?_ y1.heap.size 41 i0 (dv fun _ => 0#8) 32 32 undRs HI.out zcells H32.out V r (flat r (mlf M)) ?_ HOW.out (some ⟨y2.heap.size, 0, none⟩) 1 1 (flat 1 fun _ => x) ?_ HSR.out (flat_one _ _) hlb.out.1 hlb.out.2 HBS.out ?_); (· exact rfl); (· exact rfl); (· exact rfl); (· exact rfl); intro V7 w7 hown7 hgr7 hat7))
          have H8 : Hid (Pg y1 (mlf M) (r + 1) V7 w7) := by
            rw [← HX.out, flat_step] at hown7
            have hb8 : Below y1.heap.size y1 (y2.alloc (.cells (tab 32 fun j => bv (x j)) 41)) := H2.out.below.alloc H2.out.below.size _
            exact Lib.hid ⟨hown7, grown_below hb8 HOW.out hgr7⟩
          clear hown7 hgr7 hat7 H2 HBD HSR HOW HBS H32 hlb HUN HX hk
          go_wp2_with fail
          go_roundw
          case rel => exact ⟨r + 1, by omega, by go_num, H8⟩
          case measure => rw [hw1]; exact (show L - (r + 1) < L - r from Nat.sub_lt_sub_left (by omega) (Nat.lt_succ_self r))
        · obtain rfl : r = L := by omega
          obtain ⟨a, c, rfl, hsa, _, hc, _⟩ := hs_of hp.out.row
          go_wp2_with fail
          go_ret
          refine ⟨a, r, c, rfl, hsa, hc, by have := HN.out; omega, ?_, HP.out.2.2.2.2.trans (hp.out.below.mono HP.out.2.2.2.2.size)⟩
          exact ext_less _ _ _ (by have := HN.out; omega) fun k h1 h2 => by
            show lfX (M.mem k) = _
            rw [HP.out.2.2.1 k h1 (by have := HN.out; omega), lf_zero]
theorem rleaves_walk (w : World) (qm : Nat) (M : Mac) (hm : IsTab w qm 33 8192 (uv M.mem)) (hok : ∀ i, M.mem i < 18446744073709551616) :
    Calls Tryd.prog 22 #[.slice (some ⟨qm, 0, none⟩) 8192 8192] w fun e w' => ∃ a n c, e = .returned (.slice a n c) ∧ IsHs w' a n (mlf M) ∧ n ≤ c ∧ n ≤ 8192 ∧ ext n (mlf M) = mg M ∧ Below w.heap.size w w' := rleaves_in w qm 8192 rfl M hm hok
end Co
end Go.Proofs.YtjfpbponjhpdhaaDoor
namespace Go.Proofs.YtjfpbponjhpdhaaDoor
open Go.RowKit
set_option linter.unusedVariables false
set_option linter.unusedSimpArgs false
namespace Co
open Kc Mk Vm
/-- Words side by side as a digest. -/
def fX (g : Nat → Nat) : Hx := fun i => if i < 32 then wb (g (i / 8)) (i % 8) else 0#8
/-- The same while its first m bytes are laid. -/
def fP (g : Nat → Nat) (m : Nat) : Nat → Value := fun i => if i < m then Rl.ub (Rl.byteOf (g (i / 8)) (i % 8)) else bv 0#8
theorem fP_zero (g : Nat → Nat) : fP g 0 = fun _ => bv 0#8 := by funext i; unfold fP; rw [if_neg (by omega)]
theorem fP_next (g : Nat → Nat) (m : Nat) : Kc.updv (fP g m) m (Rl.ub (Rl.byteOf (g (m / 8)) (m % 8))) = fP g (m + 1) := by
  funext j
  unfold Kc.updv fP
  by_cases h : j = m
  · subst h; rw [if_pos rfl, if_pos (by omega)]
  · rw [if_neg h]
    by_cases h2 : j < m
    · rw [if_pos h2, if_pos (by omega)]
    · rw [if_neg h2, if_neg (by omega)]
theorem fP_all (g : Nat → Nat) {i : Nat} (hi : i < 32) : fP g 32 i = bv (fX g i) := by
  unfold fP fX
  rw [if_pos hi, if_pos hi]
  exact ub_wb _ _
def sel (a b c d : Nat) : Nat → Nat
  | 0 => a
  | 1 => b
  | 2 => c
  | _ => d
theorem bld4 (a b c d : Int) (w : World) : (Instr.buildSlice 23 4 #[(0, .int .u64 a), (1, .int .u64 b), (2, .int .u64 c), (3, .int .u64 d)]).run Tryd.prog w = .ok (.slice (some ⟨w.heap.size, 0, none⟩) 4 4) (w.alloc (.cells #[.int .u64 a, .int .u64 b, .int .u64 c, .int .u64 d] 33)) := by kernel_rfl
set_option maxHeartbeats 8000000 in
set_option maxRecDepth 100000 in
theorem four_walk (w : World) (a b c d : Nat) (ha : a < 18446744073709551616) (hb : b < 18446744073709551616) (hc : c < 18446744073709551616) (hd : d < 18446744073709551616) :
    Calls Tryd.prog 50 #[.int .u64 a, .int .u64 b, .int .u64 c, .int .u64 d] w fun e w' => e = .returned (dv (fX (sel a b c d))) ∧ Below w.heap.size w w' := by
  have HV : Hid (∀ k, sel a b c d k < 18446744073709551616) := Lib.hid (fun k => by unfold sel; split <;> assumption)
  clear ha hb hc hd
  have z2 := zero26
  have b4 := bld4
  generalize hz : (tab 32 fun _ => bv 0#8) = zh at *
  have HZ := Lib.hid hz
  clear hz
  go_enter Tryd.func50, Tryd.ntmps50
  go_upto_region 1 with (fail)
  have H0 : Hid (IsTab (w.alloc (.cells zh 41)) w.heap.size 41 32 (fun _ => bv 0#8) ∧ Below w.heap.size w (w.alloc (.cells zh 41))) := Lib.hid ⟨put_newR w zh HZ.out, ba _ _⟩
  generalize w.alloc (.cells zh 41) = y0 at *
  generalize hq : w.heap.size = q0 at *
  have HQ := Lib.hid hq
  clear hq
  go_upto_region 2 with (fail)
  clear b4
  have H1 : Hid (IsTab (y0.alloc (.cells #[.int .u64 a, .int .u64 b, .int .u64 c, .int .u64 d] 33)) q0 41 32 (fun _ => bv 0#8) ∧ Below q0 w (y0.alloc (.cells #[.int .u64 a, .int .u64 b, .int .u64 c, .int .u64 d] 33)) ∧ (∀ k, k < 4 → (y0.alloc (.cells #[.int .u64 a, .int .u64 b, .int .u64 c, .int .u64 d] 33)).cell? ⟨y0.heap.size, k, none⟩ = some (.int .u64 (sel a b c d k))) ∧ q0 < y0.heap.size) := Lib.hid ⟨H0.out.1.alloc _, H0.out.2.alloc (by have := H0.out.1.lt; omega) _, fun k hk => by
    rw [cell_of_row _ _ k _ _ _ (heap_alloc_new y0 _)]
    have e : k = 0 ∨ k = 1 ∨ k = 2 ∨ k = 3 := by omega
    rcases e with rfl | rfl | rfl | rfl <;> rfl, H0.out.1.lt⟩
  generalize y0.alloc (.cells #[.int .u64 a, .int .u64 b, .int .u64 c, .int .u64 d] 33) = y1 at *
  generalize y0.heap.size = qw at *
  clear H0
  generalize hg : sel a b c d = g at *
  have HG := Lib.hid hg
  clear hg
  go_upto_region 3 with (fail)
  have H2 : Hid (IsTab (y1.alloc (.cells zh 41)) y1.heap.size 41 32 (fP g 0) ∧ IsTab (y1.alloc (.cells zh 41)) q0 41 32 (fun _ => bv 0#8) ∧ Below q0 w (y1.alloc (.cells zh 41)) ∧ (∀ k, k < 4 → (y1.alloc (.cells zh 41)).cell? ⟨qw, k, none⟩ = some (.int .u64 (g k))) ∧ q0 < y1.heap.size ∧ qw < y1.heap.size) := Lib.hid ⟨by rw [fP_zero]; exact put_newR y1 zh HZ.out, H1.out.1.alloc _, H1.out.2.1.alloc (by have := H1.out.1.lt; omega) _, fun k hk => keep1 (ba _ _) (H1.out.2.2.1 k hk), H1.out.1.lt, by have := inHeap (H1.out.2.2.1 0 (by decide)); omega⟩
  clear H1
  generalize y1.alloc (.cells zh 41) = y2 at *
  generalize y1.heap.size = q1 at *
  go_upto_region 4 with (fail)
  go_loopw [11] (fun i y => ∃ j : Nat, i = .int .i64 j ∧ Hid (j ≤ 32 ∧ Rl.Put y2 q1 41 32 (fP g j) y)) (fun i _ => 32 - (intOf i).toNat)
  case atStart => exact ⟨0, rfl, Lib.hid ⟨Nat.zero_le _, H2.out.1, Kept.refl _ _⟩⟩
  case round =>
    obtain ⟨j, rfl, hp⟩ := hrel
    have HR := Lib.hid hp.out
    clear hp
    by_cases hlt : (j : Int) < 32
    · have x1 := HR.out.2.row.cell j (by omega)
      have x2 := HR.out.2.row.fz j
      have HJ := Lib.hid (And.intro (show j < 32 by omega) (show wrap64 ((j : Int) + 1) = ((j + 1 : Nat) : Int) by unfold wrap64; omega))
      have xw : wr.cell? ⟨qw, j / 8, none⟩ = some (.int .u64 (g (j / 8))) := (World.cell?_of_block (HR.out.2.kept.block qw (inHeap (H2.out.2.2.2.1 0 (by decide))) (by have := H2.out.2.2.2.2; omega))).trans (H2.out.2.2.2.1 (j / 8) (by omega))
      obtain ⟨D, hD⟩ : ∃ D, j / 8 = D := ⟨_, rfl⟩
      obtain ⟨m, hm⟩ : ∃ m, j % 8 = m := ⟨_, rfl⟩
      have HDM := Lib.hid (And.intro hD hm)
      have e1 : (j : Int).tdiv 8 = (D : Int) := by rw [Int.tdiv_eq_ediv_of_nonneg (by omega)]; omega
      have e2 : (j : Int).tmod 8 = (m : Int) := by rw [Int.tmod_eq_emod_of_nonneg (by omega)]; omega
      have e0 : (D : Int) < 4 := by omega
      have e5 : (m : Int) < 8 := by omega
      rw [hD] at xw
      have e3 : wrap64 (8 * (m : Int)) = ((8 * m : Nat) : Int) := by unfold wrap64; omega
      have e4 : wrap64 (56 - ((8 * m : Nat) : Int)) = ((56 - 8 * m : Nat) : Int) := by unfold wrap64; omega
      clear hD hm
      obtain ⟨v, hv⟩ : ∃ v, g D = v := ⟨_, rfl⟩
      rw [hv] at xw
      have HVV := Lib.hid hv
      clear hv
      go_wp2_with (fail)
      go_roundw
      case rel =>
        refine ⟨j + 1, by go_num, Lib.hid ⟨HJ.out.1, ?_⟩⟩
        have h9 := HR.out.2.set j (Rl.ub (Rl.byteOf (g (j / 8)) (j % 8)))
        rw [fP_next, HDM.out.1, HDM.out.2, HVV.out] at h9
        have e9 : Rl.ub (Rl.byteOf v m) = .int .u8 ((v : Int) / 2 ^ (56 - 8 * m) % 256) := by unfold Rl.ub Rl.byteOf; push_cast; rfl
        rw [← e9]; exact h9
      case measure => simp [intOf]; omega
    · obtain rfl : j = 32 := by have := HR.out.1; omega
      have H3 : Hid (IsTab wr q1 41 32 (fun j => bv (fX g j)) ∧ IsTab wr q0 41 32 (fun _ => bv 0#8) ∧ Below q0 w wr) := Lib.hid ⟨HR.out.2.row.cong fun j hj => fP_all g hj, (HR.out.2.kept.block q0 H2.out.2.1.lt (by have := H2.out.2.2.2.2; omega)).trans H2.out.2.1, H2.out.2.2.1.trans (HR.out.2.kept.below (by have := H2.out.2.1.lt; omega) fun k _ hk => by rw [hk]; have := H2.out.2.2.2.2; omega)⟩
      clear H2 HR
      have D := Lib.hid (load32r H3.out.1)
      go_wp2_with (first
        | ((with_reducible refine wpList_loadE (P := Tryd.prog) (w := wr) (ty := 41) (x := .tmp 10) (p := .pointer (some ⟨q1, 0, none⟩)) (v := dv (fX g)) ?_ ?_ ?_ D.out ?_); (· exact rfl); (· exact rfl); (· exact rfl))
        | ((with_reducible refine wpList_store_row (P := Tryd.prog) (w := wr) ?_ 41 (.tmp 8) (.tmp 35) ?_ q0 (tab 32 fun i => bv (fX g i)) ?_ ?_ 41 (tab 32 fun _ => bv 0#8) ?_ (infRr _) ?_ (one_bv _ _) ?_); (· exact rfl); (· exact rfl); (· exact rfl); (· exact rfl); (· exact H3.out.2.1); (· rw [tab_size, tab_size])))
      have hr : IsTab (World.setRow wr q0 (tab 32 fun j => bv (fX g j))) q0 41 32 fun j => bv (fX g j) := H3.out.2.1.row
      exact bodyPost_ret (results_cell_row rfl _ _ q0 41 _ (0, 0) _ rfl hr undRr rfl (infRr _)) rfl ⟨by rw [HG.out]; rfl, by rw [HQ.out]; exact below_setRow H3.out.2.2 (Nat.le_refl _) _⟩
end Co
end Go.Proofs.YtjfpbponjhpdhaaDoor
namespace Go.Proofs.YtjfpbponjhpdhaaDoor
open Go.RowKit
set_option linter.unusedVariables false
set_option linter.unusedSimpArgs false
namespace Co
open Kc Mk Vm Rl
set_option maxHeartbeats 2000000 in
set_option maxRecDepth 100000 in
theorem put_at (w : World) (q T N L c o P : Nat) (g : Nat → Value) (p v : Nat) (h : IsTab w q T N g) (ho : o = 8 * P) (hp : 8 * p + 8 ≤ L) (hL : o + L ≤ N) (hN : L ≤ 64) (hv : v < 18446744073709551616) :
    Calls Tryd.prog 49 #[.slice (some ⟨q, o, none⟩) L c, .int .i64 p, .int .u64 v] w fun e w' => e = .returned (.tuple #[]) ∧ Rl.Put w q T N (putv g (P + p) v 8) w' := by
  have HP : Hid (Rl.Put w q T N (putv g (P + p) v 0) w) := Lib.hid ⟨by rw [putv_zero]; exact h, Kept.refl _ _⟩
  have HN := Lib.hid (And.intro hp (And.intro hN (And.intro ho hL)))
  have HV := Lib.hid hv
  have e1 : wrap64 (8 * (p : Int)) = ((8 * p : Nat) : Int) := by unfold wrap64; omega
  have HE := Lib.hid e1
  clear h hp hN hv ho hL
  go_enter Tryd.func49, Tryd.ntmps49
  go_wp2_with (fail)
  go_loopw [7] (fun i y => ∃ j : Nat, i = .int .i64 j ∧ Hid (j ≤ 8 ∧ Rl.Put w q T N (putv g (P + p) v j) y)) (fun i _ => 8 - (intOf i).toNat)
  case atStart => exact ⟨0, rfl, Lib.hid ⟨Nat.zero_le _, HP.out⟩⟩
  case round =>
    obtain ⟨j, rfl, hp⟩ := hrel
    have HR := Lib.hid hp.out
    clear hp HP e1
    by_cases hlt : (j : Int) < 8
    · have e1 := HE.out
      have x1 := HR.out.2.row.cell (8 * (P + p) + j) (by have := HN.out; omega)
      have x2 := HR.out.2.row.fz (8 * (P + p) + j)
      have HJ := Lib.hid (And.intro (show j < 8 by omega) (show wrap64 ((j : Int) + 1) = ((j + 1 : Nat) : Int) by unfold wrap64; omega))
      obtain ⟨R, hR⟩ : ∃ R, 8 * p = R := ⟨_, rfl⟩
      obtain ⟨J, hJ⟩ : ∃ J, R + j = J := ⟨_, rfl⟩
      have HJJ : Hid (8 * (P + p) + j = o + J) := Lib.hid (by have := HN.out; omega)
      rw [hR] at e1
      rw [HJJ.out] at x1 x2
      have e2 : wrap64 ((R : Int) + j) = (J : Int) := by have := HN.out; unfold wrap64; omega
      have e3 : wrap64 (8 * (j : Int)) = ((8 * j : Nat) : Int) := by unfold wrap64; omega
      have e4 : wrap64 (56 - ((8 * j : Nat) : Int)) = ((56 - 8 * j : Nat) : Int) := by unfold wrap64; omega
      have e5 : (J : Int) < L := by have := HN.out; omega
      clear hR hJ
      go_wp2_with (fail)
      refine ⟨⟨j + 1, by simp, Lib.hid ⟨HJ.out.1, ?_⟩⟩, by simp [intOf]; omega⟩
      have h9 := HR.out.2.set (8 * (P + p) + j) (Rl.ub (Rl.byteOf v j))
      rw [putv_next, HJJ.out] at h9
      have e9 : Rl.ub (Rl.byteOf v j) = .int .u8 ((v : Int) / 2 ^ (56 - 8 * j) % 256) := by unfold Rl.ub Rl.byteOf; push_cast; rfl
      rw [← e9]; exact h9
    · obtain rfl : j = 8 := by have := HR.out.1; omega
      go_wp2_with (fail)
      exact bodyPost_end (v := .tuple #[]) (by simp [results, Tryd.results49, go_sem]) rfl ⟨rfl, HR.out.2⟩
end Co
end Go.Proofs.YtjfpbponjhpdhaaDoor
namespace Go.Proofs.YtjfpbponjhpdhaaDoor
open Go.RowKit
set_option linter.unusedVariables false
set_option linter.unusedSimpArgs false
namespace Co
open Kc Mk Vm
theorem exec_buildE {P : Program} {o : Oper} {ev : Operand → Value} {w : World} (t : TypeId) (parts : Array (Nat × Operand)) (ho : o.op = .build t parts)
    (vs : Array (Nat × Value)) (hx : (parts.map fun (i, x) => (i, ev x)) = vs) (v : Value) (hl : (Instr.build t vs).run P w = .ok v w) : (execOp ev o).run P w = .ok (.value v) w := by
  unfold execOp
  simp only [ho]
  rw [hx]
  simp [hl, Result.andThen]
theorem infRg : (Tryd.prog.info? 35).map (·.size) = some 16 := by kernel_rfl
theorem undRg : Tryd.prog.underlying 35 = some (.array 16 33) := by kernel_rfl
theorem loadRg {w : World} {b : Nat} {M : Mac} (h : IsMac w b M) : (Instr.loadAt 35 (.pointer (some ⟨b, 8192, none⟩))).run Tryd.prog w = .ok (.agg (tab 16 (uv M.reg))) w := by
  refine run_loadAt_mid w b 8192 _ ((List.range 16).map (uv M.reg)) _ (fun j v hv => ?_) undRg rfl (by rw [List.length_map, List.length_range]; exact infRg)
  obtain ⟨hj, rfl⟩ := List.getElem?_eq_some_iff.1 hv
  simp only [List.length_map, List.length_range] at hj
  have := IsMac.reg h hj
  simpa [uv] using this
theorem hd_eq (M : Mac) : (#[.int .u64 (M.reg 0), .int .u64 (M.reg 1), .int .u64 (M.reg 2), .int .u64 (M.reg 3), .int .u64 (M.reg 4), .int .u64 (M.reg 5), .int .u64 (M.reg 6), .int .u64 (M.reg 7), .int .u64 (M.reg 8), .int .u64 (M.reg 9), .int .u64 (M.reg 10), .int .u64 (M.reg 11), .int .u64 (M.reg 12), .int .u64 (M.reg 13), .int .u64 (M.reg 14), .int .u64 (M.reg 15), .int .u64 M.pc, .bool M.halted, .int .u64 M.exit] : Array Value) = tab 19 (hv M) := rfl
theorem buildHd (M : Mac) (w : World) : (Instr.build 48 #[(0, .agg (tab 16 (uv M.reg))), (1, .int .u64 M.pc), (2, .bool M.halted), (3, .int .u64 M.exit)]).run Tryd.prog w = .ok (.agg (tab 19 (hv M))) w := by kernel_rfl
set_option maxHeartbeats 8000000 in
set_option maxRecDepth 100000 in
theorem HeadOf_ok (w : World) (b : Nat) (M : Mac) (hm : IsMac w b M) :
    Calls Tryd.prog 15 #[.pointer (some ⟨b, 0, none⟩)] w fun e w' => e = .returned (.tuple #[.agg (tab 19 (hv M)), .nilIface]) ∧ Below w.heap.size w w' := by
  have z2 := zeroHd
  have HM := Lib.hid hm
  clear hm
  have hzs : (tab 19 (hv m0)).size = 19 := tab_size _ _
  generalize hz : (tab 19 (hv m0)) = zd at *
  have HZS := Lib.hid hzs
  clear hzs hz
  go_enter Tryd.func15, Tryd.ntmps15
  go_upto_region 3 with (fail)
  have H0 : Hid (IsMac (w.alloc (.cells zd 48)) b M ∧ Below w.heap.size w (w.alloc (.cells zd 48)) ∧ (w.alloc (.cells zd 48)).heap[w.heap.size]? = some (.cells zd 48 (0, 0)) ∧ b ≠ w.heap.size) := Lib.hid ⟨HM.out.below (ba _ _), ba _ _, heap_alloc_last w _, by have := HM.out.lt; omega⟩
  generalize w.alloc (.cells zd 48) = y0 at *
  generalize hq : w.heap.size = q2 at *
  have HQ := Lib.hid hq
  clear hq
  have HS : Hid ((fun z : World => IsMac z b M) y0.drew) := Lib.hid H0.out.1
  have HR : Hid (y0.drew.heap[q2]? = some (.cells zd 48 (0, 0))) := Lib.hid H0.out.2.2.1
  have HB : Hid (Below q2 w y0.drew) := Lib.hid H0.out.2.1.drew
  have HNE := Lib.hid H0.out.2.2.2
  clear H0
  refine wp_region_og (fun z : World => IsMac z b M) (.take 0 (.take 1 (.take 2 (.take 3 (.take 4 (.take 5 (.take 6 (.take 7 (.take 8 (.take 9 (.take 10 (.take 11 (.take 12 (.take 13 (.take 14 (.take 15 (.take 16 (.one 17 (.take 18 .done))))))))))))))))))) (by kernel_rfl) (by kernel_rfl) (HS.out) ?_
  generalize y0.drew = y1 at *
  refine og_tk (some 8) (.pointer (some ⟨b, 0, none⟩)) rfl rfl (by go_simp) (fun _ _ => by simp [execOp, go_sem]) ?_
  simp only [Act.put, pS]
  refine og_tk (some 9) (.pointer (some ⟨b, 0, none⟩)) rfl rfl (by go_simp) (fun _ _ => by simp [execOp, go_sem]) ?_
  simp only [Act.put, pS]
  refine og_tk (some 10) (.pointer (some ⟨b, 8192, none⟩)) rfl rfl (by go_simp) (fun _ _ => by simp [execOp, go_sem]) ?_
  simp only [Act.put, pS]
  refine og_ld (some 11) 35 (.tmp 10) (.pointer (some ⟨b, 8192, none⟩)) (.agg (tab 16 (uv M.reg))) rfl rfl (by go_simp) rfl rfl (fun y hy => loadRg hy) ?_
  simp only [Act.put, pS]
  refine og_tk (some 12) (.pointer (some ⟨b, 0, none⟩)) rfl rfl (by go_simp) (fun _ _ => by simp [execOp, go_sem]) ?_
  simp only [Act.put, pS]
  refine og_tk (some 13) (.pointer (some ⟨b, 0, none⟩)) rfl rfl (by go_simp) (fun _ _ => by simp [execOp, go_sem]) ?_
  simp only [Act.put, pS]
  refine og_tk (some 14) (.pointer (some ⟨b, 8208, none⟩)) rfl rfl (by go_simp) (fun _ _ => by simp [execOp, go_sem]) ?_
  simp only [Act.put, pS]
  refine og_ld (some 15) 33 (.tmp 14) (.pointer (some ⟨b, 8208, none⟩)) (.int .u64 M.pc) rfl rfl (by go_simp) rfl rfl (fun y hy => by have h := hy.pc; simp [Instr.loadAt, go_sem, h, Tryd.underlying33]) ?_
  simp only [Act.put, pS]
  refine og_tk (some 16) (.pointer (some ⟨b, 0, none⟩)) rfl rfl (by go_simp) (fun _ _ => by simp [execOp, go_sem]) ?_
  simp only [Act.put, pS]
  refine og_tk (some 17) (.pointer (some ⟨b, 0, none⟩)) rfl rfl (by go_simp) (fun _ _ => by simp [execOp, go_sem]) ?_
  simp only [Act.put, pS]
  refine og_tk (some 18) (.pointer (some ⟨b, 8209, none⟩)) rfl rfl (by go_simp) (fun _ _ => by simp [execOp, go_sem]) ?_
  simp only [Act.put, pS]
  refine og_ld (some 19) 4 (.tmp 18) (.pointer (some ⟨b, 8209, none⟩)) (.bool M.halted) rfl rfl (by go_simp) rfl rfl (fun y hy => by have h := hy.halted; simp [Instr.loadAt, go_sem, h, Tryd.underlying4]) ?_
  simp only [Act.put, pS]
  refine og_tk (some 20) (.pointer (some ⟨b, 0, none⟩)) rfl rfl (by go_simp) (fun _ _ => by simp [execOp, go_sem]) ?_
  simp only [Act.put, pS]
  refine og_tk (some 21) (.pointer (some ⟨b, 0, none⟩)) rfl rfl (by go_simp) (fun _ _ => by simp [execOp, go_sem]) ?_
  simp only [Act.put, pS]
  refine og_tk (some 22) (.pointer (some ⟨b, 8210, none⟩)) rfl rfl (by go_simp) (fun _ _ => by simp [execOp, go_sem]) ?_
  simp only [Act.put, pS]
  refine og_ld (some 23) 33 (.tmp 22) (.pointer (some ⟨b, 8210, none⟩)) (.int .u64 M.exit) rfl rfl (by go_simp) rfl rfl (fun y hy => by have h := hy.exit; simp [Instr.loadAt, go_sem, h, Tryd.underlying33]) ?_
  simp only [Act.put, pS]
  refine og_tk (some 24) (.agg (tab 19 (hv M))) rfl rfl (by go_simp) (fun y hy => exec_buildE 48 #[(0, .tmp 11), (1, .tmp 15), (2, .tmp 19), (3, .tmp 23)] rfl #[(0, .agg (tab 16 (uv M.reg))), (1, .int .u64 M.pc), (2, .bool M.halted), (3, .int .u64 M.exit)] (by simp only [List.map_toArray, List.map_cons, List.map_nil]; rfl) _ (buildHd M y)) ?_
  simp only [Act.put, pS]
  refine og_f rfl (by go_simp) fun K hK => ?_
  refine wp_store_row 48 (.tmp 2) (.tmp 24) rfl q2 (tab 19 (hv M)) rfl rfl 48 zd HR.out (infHd M) (by rw [tab_size]; exact HZS.out) (oneHd M) ?_
  have H9 : Hid (IsMac (y1.setRow q2 (tab 19 (hv M))) b M ∧ Below q2 w (y1.setRow q2 (tab 19 (hv M))) ∧ IsTab (y1.setRow q2 (tab 19 (hv M))) q2 48 19 (hv M)) := Lib.hid ⟨IsTab.rowOther HS.out HNE.out, below_setRow HB.out (Nat.le_refl _) _, setRow_heap y1 q2 _ _ _ _ HR.out⟩
  refine hK _ _ H9.out.1 ?_
  clear hK K
  try simp only [List.getElem_toArray, List.getElem_cons_succ, List.getElem_cons_zero, Act.put, pS]
  refine og_tk (some 3) (.nilIface) rfl rfl (by go_simp) (fun _ _ => by simp [execOp, go_sem]) ?_
  simp only [Act.put, pS]
  refine og_done (NoPanic.normal ?_)
  generalize y1.setRow q2 (tab 19 (hv M)) = y2 at *
  clear HS HR HB
  go_wp2_with (fail)
  exact bodyPost_ret (Kc.results_cell_tmp rfl _ _ q2 48 _ (0, 0) _ rfl H9.out.2.2 undHd rfl (infHd M) .nilIface rfl) rfl ⟨rfl, by rw [HQ.out]; exact H9.out.2.1⟩
end Co
end Go.Proofs.YtjfpbponjhpdhaaDoor
namespace Go.Proofs.YtjfpbponjhpdhaaDoor
open Go.RowKit
set_option linter.unusedVariables false
set_option linter.unusedSimpArgs false
namespace Co
open Kc Mk Vm
theorem putv_fP (g : Nat → Nat) (i : Nat) : Rl.putv (fP g (8 * i)) i (g i) 8 = fP g (8 * (i + 1)) := by
  funext j
  unfold Rl.putv fP
  by_cases h : 8 * i ≤ j ∧ j < 8 * i + 8
  · rw [if_pos h, if_pos (by omega), show j / 8 = i from by omega, show j - 8 * i = j % 8 from by omega]
  · rw [if_neg h]
    by_cases h2 : j < 8 * i
    · rw [if_pos h2, if_pos (by omega)]
    · rw [if_neg h2, if_neg (by omega)]
/-- The four digests that sixteen words are. -/
def lf4 (g : Nat → Nat) : Nat → Hx := fun k => fX fun t => g (4 * k + t)
theorem fP_hs {w : World} {q T : Nat} {g : Nat → Nat} (h : IsTab w q T 128 (fP g 128)) : IsHs w (some ⟨q, 0, none⟩) 4 (lf4 g) := .inr ⟨q, 0, rfl, fun k j hk hj => by
  rw [show 0 + 32 * k + j = 32 * k + j from by omega, h.cell (32 * k + j) (by omega)]
  unfold fP lf4 fX
  rw [if_pos (by omega), if_pos hj, show (32 * k + j) / 8 = 4 * k + j / 8 from by omega, show (32 * k + j) % 8 = j % 8 from by omega]
  exact congrArg some (ub_wb _ _)⟩
theorem idxRg (f : Nat → Nat) (i : Nat) (h : i < 16) (w : World) : (Instr.index 35 (.agg (tab 16 (uv f))) (.int .i64 i)).run Tryd.prog w = .ok (.int .u64 (f i)) w := by
  have e : i = 0 ∨ i = 1 ∨ i = 2 ∨ i = 3 ∨ i = 4 ∨ i = 5 ∨ i = 6 ∨ i = 7 ∨ i = 8 ∨ i = 9 ∨ i = 10 ∨ i = 11 ∨ i = 12 ∨ i = 13 ∨ i = 14 ∨ i = 15 := by omega
  rcases e with rfl | rfl | rfl | rfl | rfl | rfl | rfl | rfl | rfl | rfl | rfl | rfl | rfl | rfl | rfl | rfl <;> (clear h; show _ = _; kernel_rfl)
theorem build4 (w : World) : (Instr.build 118 #[]).run Tryd.prog w = .ok (.agg (tab 128 fun _ => bv 0#8)) w := by kernel_rfl
theorem zero4 (w : World) : (zeroValue 118).run Tryd.prog w = .ok (.agg (tab 128 fun _ => bv 0#8)) w := by kernel_rfl
theorem inf4' : (Tryd.prog.info? 118).map (·.size) = some 128 := by kernel_rfl
theorem inf4 (g : Nat → Value) : (Tryd.prog.info? 118).map (·.size) = some (tab 128 g).size := by rw [tab_size]; exact inf4'
theorem ixL4 (q k : Nat) (h : k < 4) (w : World) : (Instr.indexAt 118 (.pointer (some ⟨q, 0, none⟩)) (.int .i64 k)).run Tryd.prog w = .ok (.pointer (some ⟨q, k * 32, none⟩)) w := by
  have h1 : (k : Int) < 4 := by omega
  simp [go_sem, h1, Tryd.underlying118]
theorem loadRgBox {w : World} {q : Nat} {M : Mac} (h : IsTab w q 48 19 (hv M)) : (Instr.loadAt 35 (.pointer (some ⟨q, 0, none⟩))).run Tryd.prog w = .ok (.agg (tab 16 (uv M.reg))) w := by
  refine run_loadAt_mid w q 0 _ ((List.range 16).map (uv M.reg)) _ (fun j v hv => ?_) undRg rfl (by rw [List.length_map, List.length_range]; exact infRg)
  obtain ⟨hj, rfl⟩ := List.getElem?_eq_some_iff.1 hv
  simp only [List.length_map, List.length_range] at hj
  have h1 := IsTab.cell h j (by omega)
  have e : Co.hv M j = .int .u64 (M.reg j) := by unfold Co.hv; rw [if_pos hj]
  rw [e] at h1
  simpa [uv] using h1
end Co
end Go.Proofs.YtjfpbponjhpdhaaDoor
namespace Go.Proofs.YtjfpbponjhpdhaaDoor
open Go.RowKit
set_option linter.unusedVariables false
set_option linter.unusedSimpArgs false
namespace Co
open Kc Mk Vm
theorem slHO (q o : Nat) (w : World) : (Instr.sliceAt 42 (.pointer (some ⟨q, o, none⟩)) none none none).run Tryd.prog w = .ok (.slice (some ⟨q, o, none⟩) 32 32) w := by
  rw [run_sliceAt_array_all w _ ⟨q, o, none⟩ undH', sizeH]
  simp [slicedAt, lenH, Addr.add]
def hdX (M : Mac) : Hx := pr (rootOf 2 4 (lf4 M.reg)) (fX (sel M.pc (if M.halted then 1 else 0) M.exit 0))
theorem put3 (a b c j : Nat) (hj : j < 32) : Rl.putv (Rl.putv (Rl.putv (fun _ => bv 0#8) 0 a 8) 1 b 8) 2 c 8 j = bv (fX (sel a b c 0) j) := by
  unfold Rl.putv fX
  rw [if_pos hj]
  by_cases h2 : 16 ≤ j ∧ j < 24
  · rw [if_pos (by omega), show j / 8 = 2 from by omega, show j % 8 = j - 8 * 2 from by omega]; exact ub_wb _ _
  rw [if_neg (by omega)]
  by_cases h1 : 8 ≤ j ∧ j < 16
  · rw [if_pos (by omega), show j / 8 = 1 from by omega, show j % 8 = j - 8 * 1 from by omega]; exact ub_wb _ _
  rw [if_neg (by omega)]
  by_cases h0 : j < 8
  · rw [if_pos (by omega), show j / 8 = 0 from by omega, show j % 8 = j - 8 * 0 from by omega]; exact ub_wb _ _
  rw [if_neg (by omega), show j / 8 = 3 from by omega]
  show bv 0#8 = bv (wb 0 _)
  rw [wb_zero]
theorem put2 (a c j : Nat) (hj : j < 32) : Rl.putv (Rl.putv (fun _ => bv 0#8) 0 a 8) 2 c 8 j = bv (fX (sel a 0 c 0) j) := by
  unfold Rl.putv fX
  rw [if_pos hj]
  by_cases h2 : 16 ≤ j ∧ j < 24
  · rw [if_pos (by omega), show j / 8 = 2 from by omega, show j % 8 = j - 8 * 2 from by omega]; exact ub_wb _ _
  rw [if_neg (by omega)]
  by_cases h0 : j < 8
  · rw [if_pos (by omega), show j / 8 = 0 from by omega, show j % 8 = j - 8 * 0 from by omega]; exact ub_wb _ _
  rw [if_neg (by omega)]
  have e : sel a 0 c 0 (j / 8) = 0 := by
    have e : j / 8 = 1 ∨ j / 8 = 3 := by omega
    rcases e with e | e <;> rw [e] <;> rfl
  rw [e, wb_zero]
/-- What the rest keeps. -/
structure Dr (W : World) (q1 q2 q6 q8 : Nat) (M : Mac) (R : Hx) (g : Nat → Value) (y : World) : Prop where
  box : IsTab y q1 48 19 (hv M)
  res : IsTab y q2 42 32 (fun _ => bv 0#8)
  s6 : IsTab y q6 42 32 fun i => bv (R i)
  s8 : IsTab y q8 42 32 g
  below : Below W.heap.size W y
  ge : W.heap.size ≤ q1 ∧ q1 < q2 ∧ q2 < q6 ∧ q6 < q8
theorem Dr.drew {W y : World} {q1 q2 q6 q8 : Nat} {M : Mac} {R : Hx} {g : Nat → Value} (h : Dr W q1 q2 q6 q8 M R g y) : Dr W q1 q2 q6 q8 M R g y.drew := ⟨h.box, h.res, h.s6, h.s8, h.below.drew, h.ge⟩
theorem Dr.put {W y y' : World} {q1 q2 q6 q8 : Nat} {M : Mac} {R : Hx} {g g' : Nat → Value} (h : Dr W q1 q2 q6 q8 M R g y) (hp : Rl.Put y q8 42 32 g' y') : Dr W q1 q2 q6 q8 M R g' y' := by
  have n := h.ge
  exact ⟨(hp.kept.block q1 h.box.lt (by omega)).trans h.box, (hp.kept.block q2 h.res.lt (by omega)).trans h.res, (hp.kept.block q6 h.s6.lt (by omega)).trans h.s6, hp.row, h.below.trans (hp.kept.below (by have := h.below.size; exact this) fun k _ hk => by rw [hk]; omega), n⟩
theorem slL4 (q : Nat) (w : World) : (Instr.sliceAt 118 (.pointer (some ⟨q, 0, none⟩)) none none none).run Tryd.prog w = .ok (.slice (some ⟨q, 0, none⟩) 4 4) w := by kernel_rfl
structure Dr0 (W : World) (q1 q2 q6 : Nat) (M : Mac) (R : Hx) (y : World) : Prop where
  box : IsTab y q1 48 19 (hv M)
  res : IsTab y q2 42 32 (fun _ => bv 0#8)
  s6 : IsTab y q6 42 32 fun i => bv (R i)
  below : Below W.heap.size W y
  ge : W.heap.size ≤ q1 ∧ q1 < q2 ∧ q2 < q6
/-- What Digest's loop keeps. -/
structure Dg (W : World) (q1 q2 q3 : Nat) (M : Mac) (m : Nat) (y : World) : Prop where
  box : IsTab y q1 48 19 (hv M)
  res : IsTab y q2 42 32 (fun _ => bv 0#8)
  lv : IsTab y q3 118 128 (fP M.reg m)
  below : Below W.heap.size W y
  ge : W.heap.size ≤ q1 ∧ q1 < q2 ∧ q2 < q3
theorem Dg.put {W y y' : World} {q1 q2 q3 m i : Nat} {M : Mac} (h : Dg W q1 q2 q3 M m y) (hm : m = 8 * i) (hp : Rl.Put y q3 118 128 (Rl.putv (fP M.reg m) i (M.reg i) 8) y') : Dg W q1 q2 q3 M (8 * (i + 1)) y' := by
  subst hm
  have g := h.ge
  have l1 := h.box.lt
  have l2 := h.res.lt
  have hr := hp.row
  rw [putv_fP] at hr
  exact ⟨(hp.kept.block q1 l1 (by omega)).trans h.box, (hp.kept.block q2 l2 (by omega)).trans h.res, hr, h.below.trans (hp.kept.below (by have := h.below.size; exact this) fun k _ hk => by rw [hk]; omega), g⟩
set_option maxHeartbeats 8000000 in
set_option maxRecDepth 100000 in
theorem digest_walk (w : World) (M : Mac) (hr : ∀ i, M.reg i < 18446744073709551616) (hpc : M.pc < 18446744073709551616) (hex : M.exit < 18446744073709551616) (ht : Laid.KTab w) :
    Calls Tryd.prog 24 #[.agg (tab 19 (hv M))] w fun e w' => e = .returned (dv (hdX M)) ∧ Below w.heap.size w w' := by
  have HOK := Lib.hid (And.intro hr (And.intro hpc (And.intro hex ht)))
  clear hr hpc hex ht
  have z4 := zero4
  have HB4 := Lib.hid (fun u : World => build4 u)
  generalize hz4 : (tab 128 fun _ => bv 0#8) = z4h at *
  have HZ4 := Lib.hid hz4
  clear hz4
  have HI4 : Hid ((Tryd.prog.info? 118).map (·.size) = some z4h.size ∧ z4h.all (·.oneCell') = true ∧ z4h.size = 128) := Lib.hid ⟨by rw [← HZ4.out]; exact inf4 _, by rw [← HZ4.out]; exact one_bv _ _, by rw [← HZ4.out, tab_size]⟩
  have z2 := zeroHash
  have HBH := Lib.hid (fun u : World => buildH0 u)
  generalize hz : (tab 32 fun _ => bv 0#8) = zh at *
  have HZ := Lib.hid hz
  clear hz
  have HZI : Hid ((Tryd.prog.info? 42).map (·.size) = some zh.size ∧ zh.all (·.oneCell') = true ∧ zh.size = 32) := Lib.hid ⟨by rw [← HZ.out]; exact infH _, by rw [← HZ.out]; exact one_bv _ _, by rw [← HZ.out, tab_size]⟩
  obtain ⟨hd, hhd⟩ : ∃ hd, tab 19 (hv M) = hd := ⟨_, rfl⟩
  have HHD := Lib.hid hhd
  rw [hhd]
  clear hhd
  go_enter Tryd.func24, Tryd.ntmps24
  go_upto_region 1 with (fail)
  have H0 : Hid (IsTab ((w.alloc (.cells hd 48)).alloc (.cells zh 42)) w.heap.size 48 19 (hv M) ∧ IsTab ((w.alloc (.cells hd 48)).alloc (.cells zh 42)) (w.heap.size + 1) 42 32 (fun _ => bv 0#8) ∧ Below w.heap.size w ((w.alloc (.cells hd 48)).alloc (.cells zh 42))) := Lib.hid (by
    have e1 : (w.alloc (.cells hd 48)).heap.size = w.heap.size + 1 := by simp
    have t6 := put_new (w.alloc (.cells hd 48)) (fun _ => 0#8) zh HZ.out
    rw [e1] at t6
    refine ⟨IsTab.alloc ?_ _, t6, ((Below.refl _ _).alloc (Nat.le_refl _) _).alloc (by simp) _⟩
    rw [← HHD.out]; exact IsTab.new w 48 19 (hv M))
  generalize (w.alloc (.cells hd 48)).alloc (.cells zh 42) = y0 at *
  generalize hq2 : w.heap.size + 1 = q2 at *
  generalize hq : w.heap.size = q1 at *
  have HQ := Lib.hid (And.intro hq hq2)
  clear hq hq2
  go_upto_region 2 with (first
    | ((with_reducible refine wpList_buildM (P := Tryd.prog) (w := y0) ?_ 118 ?_ (.agg z4h) (HB4.out y0) ?_); (· exact rfl); (· exact rfl))
    | ((with_reducible refine wpList_store_row (P := Tryd.prog) (w := y0.alloc (.cells z4h 118)) ?_ 118 (.tmp 3) (.tmp 9) ?_ y0.heap.size z4h ?_ ?_ 118 z4h (heap_alloc_last y0 _) HI4.out.1 ?_ HI4.out.2.1 ?_); (· exact rfl); (· exact rfl); (· exact rfl); (· exact rfl); (· exact rfl); rw [World.setRow_alloc_new]; simp only [Act.put]))
  have H1 : Hid (Dg w q1 q2 y0.heap.size M 0 (y0.alloc (.cells z4h 118))) := Lib.hid ⟨H0.out.1.alloc _, H0.out.2.1.alloc _, by rw [fP_zero, ← HZ4.out]; exact IsTab.new y0 118 128 _, by rw [HQ.out.1]; exact H0.out.2.2.alloc (by have := H0.out.2.1.lt; have := HQ.out; omega) _, by have := HQ.out; omega, by have := HQ.out; omega, H0.out.2.1.lt⟩
  clear H0
  generalize y0.alloc (.cells z4h 118) = y1 at *
  generalize y0.heap.size = q3 at *
  have HLR := Lib.hid (loadRgBox H1.out.box)
  go_upto_region 3 with (first
    | ((with_reducible refine wpList_loadE (P := Tryd.prog) (w := y1) (ty := 35) (x := .tmp 10) (p := .pointer (some ⟨q1, 0, none⟩)) (v := .agg (tab 16 (uv M.reg))) ?_ ?_ ?_ HLR.out ?_); (· exact rfl); (· exact rfl); (· exact rfl)))
  clear HLR
  obtain ⟨rg, hrg⟩ : ∃ rg, tab 16 (uv M.reg) = rg := ⟨_, rfl⟩
  have HRG := Lib.hid hrg
  rw [hrg]
  clear hrg
  go_loopw [12] (fun t y => ∃ i : Nat, t = .int .i64 i ∧ Hid (i ≤ 16 ∧ Dg w q1 q2 q3 M (8 * i) y)) (fun t _ => 16 - (intOf t).toNat)
  case atStart => exact ⟨0, rfl, Lib.hid ⟨Nat.zero_le _, H1.out⟩⟩
  case round =>
    obtain ⟨i, rfl, hp⟩ := hrel
    have HP := Lib.hid hp.out
    clear hp H1
    by_cases hlt : (i : Int) < 16
    · have hix := fun u : World => idxRg M.reg i (by omega) u
      rw [HRG.out] at hix
      have HJ : Hid (i + 1 ≤ 16 ∧ wrap64 ((i : Int) + 1) = ((i + 1 : Nat) : Int)) := Lib.hid ⟨by omega, by unfold wrap64; omega⟩
      obtain ⟨D, hD⟩ : ∃ D, i / 4 = D := ⟨_, rfl⟩
      obtain ⟨m, hm⟩ : ∃ m, i % 4 = m := ⟨_, rfl⟩
      have e1 : (i : Int).tdiv 4 = (D : Int) := by rw [Int.tdiv_eq_ediv_of_nonneg (by omega)]; omega
      have e2 : (i : Int).tmod 4 = (m : Int) := by rw [Int.tmod_eq_emod_of_nonneg (by omega)]; omega
      have e0 : (D : Int) < 4 := by omega
      have s1 := slHO q3 (D * 32)
      have hpa := put_at wr q3 118 128 32 32 (D * 32) (4 * D) (fP M.reg (8 * i)) m (M.reg i) HP.out.2.lv (by omega) (by omega) (by omega) (by decide) (HOK.out.1 i)
      rw [show 4 * D + m = i from by omega] at hpa
      have HPA := Lib.hid hpa
      clear hpa hD hm
      generalize hv2 : M.reg i = v at *
      have HVV := Lib.hid hv2
      clear hv2
      go_upto_region 6 with (go_at_call 49; (with_reducible refine HPA.out.mono ?_); rintro e y2 ⟨he, hp⟩; obtain rfl : e = _ := he; have HP2 := Lib.hid hp; clear hp HPA)
      have HN : Hid (Dg w q1 q2 q3 M (8 * (i + 1)) y2) := Lib.hid (HP.out.2.put rfl (by have h := HP2.out; rw [← HVV.out] at h; exact h))
      have hw1 := HJ.out.2
      clear e1 e2 e0 s1 hix HP HP2
      go_wp2_with (fail)
      go_roundw
      case rel => exact ⟨i + 1, by go_num, Lib.hid ⟨HJ.out.1, HN.out⟩⟩
      case measure => simp [intOf]; omega
    · obtain rfl : i = 16 := by have := HP.out.1; omega
      clear hlt
      have H2 : Hid (Dg w q1 q2 q3 M 128 wr) := Lib.hid HP.out.2
      clear HP
      generalize wr = y3 at *
      have s4 := slL4 q3
      have hra := root_any 2 (some ⟨q3, 0, none⟩) 4 4 (lf4 M.reg) y3 (fP_hs H2.out.lv) (fun h => by cases h) (Nat.le_refl _) (by decide) (ktab_below HOK.out.2.2.2 H2.out.below)
      have HRA := Lib.hid hra
      clear hra
      obtain ⟨R, hR⟩ : ∃ R, rootOf 2 4 (lf4 M.reg) = R := ⟨_, rfl⟩
      have HRR := Lib.hid hR
      have HRA : Hid (Calls Tryd.prog 37 #[.int .i64 2, .slice (some ⟨q3, 0, none⟩) 4 4] y3 fun e w' => e = .returned (.tuple #[dv R, errV (wrong 2 4)]) ∧ Below y3.heap.size y3 w') := Lib.hid (by have h := HRA.out; rw [HRR.out] at h; exact h)
      clear hR
      go_upto_region 8 with (first
        | (go_at_call 37; (with_reducible refine HRA.out.mono ?_); rintro e y4 ⟨he, hb⟩; obtain rfl : e = _ := he; have HB4 := Lib.hid hb; clear hb HRA)
        | ((with_reducible refine wpList_store_row (P := Tryd.prog) (w := y4.alloc (.cells zh 42)) ?_ 42 (.tmp 6) (.tmp 28) ?_ y4.heap.size (tab 32 fun i => bv (R i)) ?_ ?_ 42 zh (heap_alloc_last y4 _) (infH _) ?_ (one_bv _ _) ?_); (· exact rfl); (· exact rfl); (· exact rfl); (· exact rfl); (· rw [HZI.out.2.2, tab_size]); rw [World.setRow_alloc_new]; simp only [Act.put]))
      clear s4
      have H5 : Hid (Dr0 w q1 q2 y4.heap.size M R (y4.alloc (.cells (tab 32 fun i => bv (R i)) 42))) := Lib.hid ⟨(H2.out.box.below HB4.out).alloc _, (H2.out.res.below HB4.out).alloc _, IsTab.new y4 _ 32 _, (bl H2.out.below HB4.out).alloc (by have := (bl H2.out.below HB4.out).size; exact this) _, H2.out.ge.1, H2.out.ge.2.1, by have := H2.out.res.lt; have := HB4.out.size; omega⟩
      clear H2 HB4
      generalize y4.alloc (.cells (tab 32 fun i => bv (R i)) 42) = y5 at *
      generalize y4.heap.size = q6 at *
      go_upto_region 9 with (first
        | ((with_reducible refine wpList_buildM (P := Tryd.prog) (w := y5) ?_ 42 ?_ (.agg zh) (HBH.out y5) ?_); (· exact rfl); (· exact rfl))
        | ((with_reducible refine wpList_store_row (P := Tryd.prog) (w := y5.alloc (.cells zh 42)) ?_ 42 (.tmp 8) (.tmp 30) ?_ y5.heap.size zh ?_ ?_ 42 zh (heap_alloc_last y5 _) HZI.out.1 ?_ HZI.out.2.1 ?_); (· exact rfl); (· exact rfl); (· exact rfl); (· exact rfl); (· exact rfl); rw [World.setRow_alloc_new]; simp only [Act.put]))
      have H6 : Hid (Dr w q1 q2 q6 y5.heap.size M R (fun _ => bv 0#8) (y5.alloc (.cells zh 42))) := Lib.hid ⟨H5.out.box.alloc _, H5.out.res.alloc _, H5.out.s6.alloc _, put_new y5 (fun _ => 0#8) zh HZ.out, H5.out.below.alloc (by have := H5.out.below.size; exact this) _, H5.out.ge.1, H5.out.ge.2.1, H5.out.ge.2.2, H5.out.s6.lt⟩
      clear H5
      generalize y5.alloc (.cells zh 42) = y6 at *
      generalize y5.heap.size = q8 at *
      have HS9 : Hid (Dr w q1 q2 q6 q8 M R (fun _ => bv 0#8) y6.drew) := Lib.hid H6.out.drew
      clear H6
      refine wp_region_og (fun z : World => IsTab z q1 48 19 (hv M)) (.take 0 (.take 1 (.take 2 (.one 3 .done)))) (by kernel_rfl) (by kernel_rfl) (HS9.out.box) ?_
      generalize y6.drew = y7 at *
      have hc := Rl.put_walk y7 q8 42 32 32 (fun _ => bv 0#8) 0 M.pc HS9.out.s8 (by decide) (by decide) HOK.out.2.1
      rw [show ((0 : Nat) : Int) = 0 from rfl] at hc
      have HC := Lib.hid hc
      clear hc
      refine og_tk (some 31) (.slice (some ⟨q8, 0, none⟩) 32 32) rfl rfl (by go_simp) (fun y hy => by have h := slHA q8 y; simp [execOp, go_sem, h, Result.andThen]) ?_
      simp only [Act.put, pS]
      refine og_tk (some 32) (.pointer (some ⟨q1, 16, none⟩)) rfl rfl (by go_simp) (fun _ _ => by simp [execOp, go_sem]) ?_
      simp only [Act.put, pS]
      refine og_ld (some 33) 33 (.tmp 32) (.pointer (some ⟨q1, 16, none⟩)) (.int .u64 M.pc) rfl rfl (by go_simp) rfl rfl (fun y hy => by have h := (show y.cell? ⟨q1, 16, none⟩ = some (.int .u64 M.pc) from IsTab.cell hy 16 (by decide)); simp [Instr.loadAt, go_sem, h, Tryd.underlying33]) ?_
      simp only [Act.put, pS]
      refine og_f rfl (by go_simp) fun K hK => ?_
      go_simp
      refine HC.out.mono ?_
      rintro e y8 ⟨he, hp⟩
      obtain rfl : e = _ := he
      have H8 : Hid (Dr w q1 q2 q6 q8 M R (Rl.putv (fun _ => bv 0#8) 0 M.pc 8) y8) := Lib.hid (HS9.out.put hp)
      refine hK _ _ H8.out.box ?_
      clear hK K hp
      try simp only [List.getElem_toArray, List.getElem_cons_succ, List.getElem_cons_zero, Act.put, pS]
      refine og_done (NoPanic.normal ?_)
      clear HS9 HC
      cases hh : M.halted
      · have k17 : y8.cell? ⟨q1, 17, none⟩ = some (.bool false) := by rw [← hh]; exact IsTab.cell H8.out.box 17 (by decide)
        go_upto_region 12 with (fail)
        have H9 : Hid (Dr w q1 q2 q6 q8 M R (Rl.putv (fun _ => bv 0#8) 0 M.pc 8) y8) := Lib.hid H8.out
        clear k17 H8
        generalize y8 = y9 at *
        have HS12 : Hid (Dr w q1 q2 q6 q8 M R (Rl.putv (fun _ => bv 0#8) 0 M.pc 8) y9.drew) := Lib.hid H9.out.drew
        clear H9
        refine wp_region_og (fun z : World => IsTab z q1 48 19 (hv M)) (.take 0 (.take 1 (.take 2 (.one 3 .done)))) (by kernel_rfl) (by kernel_rfl) (HS12.out.box) ?_
        generalize y9.drew = y10 at *
        have hc := Rl.put_walk y10 q8 42 32 32 (Rl.putv (fun _ => bv 0#8) 0 M.pc 8) 2 M.exit HS12.out.s8 (by decide) (by decide) HOK.out.2.2.1
        rw [show ((2 : Nat) : Int) = 2 from rfl] at hc
        have HC := Lib.hid hc
        clear hc
        refine og_tk (some 39) (.slice (some ⟨q8, 0, none⟩) 32 32) rfl rfl (by go_simp) (fun y hy => by have h := slHA q8 y; simp [execOp, go_sem, h, Result.andThen]) ?_
        simp only [Act.put, pS]
        refine og_tk (some 40) (.pointer (some ⟨q1, 18, none⟩)) rfl rfl (by go_simp) (fun _ _ => by simp [execOp, go_sem]) ?_
        simp only [Act.put, pS]
        refine og_ld (some 41) 33 (.tmp 40) (.pointer (some ⟨q1, 18, none⟩)) (.int .u64 M.exit) rfl rfl (by go_simp) rfl rfl (fun y hy => by have h := (show y.cell? ⟨q1, 18, none⟩ = some (.int .u64 M.exit) from IsTab.cell hy 18 (by decide)); simp [Instr.loadAt, go_sem, h, Tryd.underlying33]) ?_
        simp only [Act.put, pS]
        refine og_f rfl (by go_simp) fun K hK => ?_
        go_simp
        refine HC.out.mono ?_
        rintro e y11 ⟨he, hp⟩
        obtain rfl : e = _ := he
        have H11 : Hid (Dr w q1 q2 q6 q8 M R (Rl.putv (Rl.putv (fun _ => bv 0#8) 0 M.pc 8) 2 M.exit 8) y11) := Lib.hid (HS12.out.put hp)
        refine hK _ _ H11.out.box ?_
        clear hK K hp
        try simp only [List.getElem_toArray, List.getElem_cons_succ, List.getElem_cons_zero, Act.put, pS]
        refine og_done (NoPanic.normal ?_)
        clear HS12 HC
        obtain ⟨X, hX⟩ : ∃ X, fX (sel M.pc 0 M.exit 0) = X := ⟨_, rfl⟩
        have H12 : Hid (IsTab y11 q8 42 32 fun i => bv (X i)) := Lib.hid (by rw [← hX]; exact H11.out.s8.cong fun j hj => put2 M.pc M.exit j hj)
        have HX : Hid (hdX M = pr R X) := Lib.hid (by unfold hdX; rw [HRR.out, hh, ← hX]; rfl)
        clear hX hh
        have HL6 := Lib.hid (load32h H11.out.s6)
        have HL8 := Lib.hid (load32h H12.out)
        have HPR := Lib.hid (pair_dv R X y11 (ktab_below HOK.out.2.2.2 H11.out.below))
        go_wp2_with (first
          | ((with_reducible refine wpList_loadE (P := Tryd.prog) (w := y11) (ty := 42) (x := .tmp 6) (p := .pointer (some ⟨q6, 0, none⟩)) (v := dv R) ?_ ?_ ?_ HL6.out ?_); (· exact rfl); (· exact rfl); (· exact rfl))
          | ((with_reducible refine wpList_loadE (P := Tryd.prog) (w := y11) (ty := 42) (x := .tmp 8) (p := .pointer (some ⟨q8, 0, none⟩)) (v := dv X) ?_ ?_ ?_ HL8.out ?_); (· exact rfl); (· exact rfl); (· exact rfl))
          | (go_at_call 39; (with_reducible refine HPR.out.mono ?_); rintro e y13 ⟨he, hb⟩; obtain rfl : e = _ := he; have H13 : Hid (IsTab y13 q2 42 32 (fun _ => bv 0#8) ∧ Below w.heap.size w y13 ∧ w.heap.size ≤ q2) := Lib.hid ⟨H11.out.res.below hb, bl H11.out.below hb, by have := H11.out.ge; omega⟩; clear hb HPR)
          | ((with_reducible refine wpList_store_row (P := Tryd.prog) (w := y13) ?_ 42 (.tmp 2) (.tmp 45) ?_ q2 (tab 32 fun i => bv (pr R X i)) ?_ ?_ 42 (tab 32 fun _ => bv 0#8) ?_ (infH _) ?_ (one_bv _ _) ?_); (· exact rfl); (· exact rfl); (· exact rfl); (· exact rfl); (· exact H13.out.1); (· rw [tab_size, tab_size])))
        have hr : IsTab (World.setRow y13 q2 (tab 32 fun j => bv (pr R X j))) q2 42 32 fun j => bv (pr R X j) := H13.out.1.row
        exact bodyPost_ret (results_cell_row rfl _ _ q2 42 _ (0, 0) _ rfl hr undH rfl (infH _)) rfl ⟨by rw [HX.out]; rfl, below_setRow H13.out.2.1 H13.out.2.2 _⟩
      · have k17 : y8.cell? ⟨q1, 17, none⟩ = some (.bool true) := by rw [← hh]; exact IsTab.cell H8.out.box 17 (by decide)
        have s8 := slHA q8
        have hc := Rl.put_walk y8 q8 42 32 32 (Rl.putv (fun _ => bv 0#8) 0 M.pc 8) 1 1 H8.out.s8 (by decide) (by decide) (by decide)
        rw [show ((1 : Nat) : Int) = 1 from rfl] at hc
        have HC := Lib.hid hc
        clear hc
        go_upto_region 12 with (go_at_call 49; (with_reducible refine HC.out.mono ?_); rintro e y9 ⟨he, hp⟩; obtain rfl : e = _ := he; have H9 : Hid (Dr w q1 q2 q6 q8 M R (Rl.putv (Rl.putv (fun _ => bv 0#8) 0 M.pc 8) 1 1 8) y9) := Lib.hid (H8.out.put hp); clear hp)
        clear s8 k17 H8 HC
        have HS12 : Hid (Dr w q1 q2 q6 q8 M R (Rl.putv (Rl.putv (fun _ => bv 0#8) 0 M.pc 8) 1 1 8) y9.drew) := Lib.hid H9.out.drew
        clear H9
        refine wp_region_og (fun z : World => IsTab z q1 48 19 (hv M)) (.take 0 (.take 1 (.take 2 (.one 3 .done)))) (by kernel_rfl) (by kernel_rfl) (HS12.out.box) ?_
        generalize y9.drew = y10 at *
        have hc := Rl.put_walk y10 q8 42 32 32 (Rl.putv (Rl.putv (fun _ => bv 0#8) 0 M.pc 8) 1 1 8) 2 M.exit HS12.out.s8 (by decide) (by decide) HOK.out.2.2.1
        rw [show ((2 : Nat) : Int) = 2 from rfl] at hc
        have HC := Lib.hid hc
        clear hc
        refine og_tk (some 39) (.slice (some ⟨q8, 0, none⟩) 32 32) rfl rfl (by go_simp) (fun y hy => by have h := slHA q8 y; simp [execOp, go_sem, h, Result.andThen]) ?_
        simp only [Act.put, pS]
        refine og_tk (some 40) (.pointer (some ⟨q1, 18, none⟩)) rfl rfl (by go_simp) (fun _ _ => by simp [execOp, go_sem]) ?_
        simp only [Act.put, pS]
        refine og_ld (some 41) 33 (.tmp 40) (.pointer (some ⟨q1, 18, none⟩)) (.int .u64 M.exit) rfl rfl (by go_simp) rfl rfl (fun y hy => by have h := (show y.cell? ⟨q1, 18, none⟩ = some (.int .u64 M.exit) from IsTab.cell hy 18 (by decide)); simp [Instr.loadAt, go_sem, h, Tryd.underlying33]) ?_
        simp only [Act.put, pS]
        refine og_f rfl (by go_simp) fun K hK => ?_
        go_simp
        refine HC.out.mono ?_
        rintro e y11 ⟨he, hp⟩
        obtain rfl : e = _ := he
        have H11 : Hid (Dr w q1 q2 q6 q8 M R (Rl.putv (Rl.putv (Rl.putv (fun _ => bv 0#8) 0 M.pc 8) 1 1 8) 2 M.exit 8) y11) := Lib.hid (HS12.out.put hp)
        refine hK _ _ H11.out.box ?_
        clear hK K hp
        try simp only [List.getElem_toArray, List.getElem_cons_succ, List.getElem_cons_zero, Act.put, pS]
        refine og_done (NoPanic.normal ?_)
        clear HS12 HC
        obtain ⟨X, hX⟩ : ∃ X, fX (sel M.pc 1 M.exit 0) = X := ⟨_, rfl⟩
        have H12 : Hid (IsTab y11 q8 42 32 fun i => bv (X i)) := Lib.hid (by rw [← hX]; exact H11.out.s8.cong fun j hj => put3 M.pc 1 M.exit j hj)
        have HX : Hid (hdX M = pr R X) := Lib.hid (by unfold hdX; rw [HRR.out, hh, ← hX]; rfl)
        clear hX hh
        have HL6 := Lib.hid (load32h H11.out.s6)
        have HL8 := Lib.hid (load32h H12.out)
        have HPR := Lib.hid (pair_dv R X y11 (ktab_below HOK.out.2.2.2 H11.out.below))
        go_wp2_with (first
          | ((with_reducible refine wpList_loadE (P := Tryd.prog) (w := y11) (ty := 42) (x := .tmp 6) (p := .pointer (some ⟨q6, 0, none⟩)) (v := dv R) ?_ ?_ ?_ HL6.out ?_); (· exact rfl); (· exact rfl); (· exact rfl))
          | ((with_reducible refine wpList_loadE (P := Tryd.prog) (w := y11) (ty := 42) (x := .tmp 8) (p := .pointer (some ⟨q8, 0, none⟩)) (v := dv X) ?_ ?_ ?_ HL8.out ?_); (· exact rfl); (· exact rfl); (· exact rfl))
          | (go_at_call 39; (with_reducible refine HPR.out.mono ?_); rintro e y13 ⟨he, hb⟩; obtain rfl : e = _ := he; have H13 : Hid (IsTab y13 q2 42 32 (fun _ => bv 0#8) ∧ Below w.heap.size w y13 ∧ w.heap.size ≤ q2) := Lib.hid ⟨H11.out.res.below hb, bl H11.out.below hb, by have := H11.out.ge; omega⟩; clear hb HPR)
          | ((with_reducible refine wpList_store_row (P := Tryd.prog) (w := y13) ?_ 42 (.tmp 2) (.tmp 45) ?_ q2 (tab 32 fun i => bv (pr R X i)) ?_ ?_ 42 (tab 32 fun _ => bv 0#8) ?_ (infH _) ?_ (one_bv _ _) ?_); (· exact rfl); (· exact rfl); (· exact rfl); (· exact rfl); (· exact H13.out.1); (· rw [tab_size, tab_size])))
        have hr : IsTab (World.setRow y13 q2 (tab 32 fun j => bv (pr R X j))) q2 42 32 fun j => bv (pr R X j) := H13.out.1.row
        exact bodyPost_ret (results_cell_row rfl _ _ q2 42 _ (0, 0) _ rfl hr undH rfl (infH _)) rfl ⟨by rw [HX.out]; rfl, below_setRow H13.out.2.1 H13.out.2.2 _⟩
end Co
end Go.Proofs.YtjfpbponjhpdhaaDoor
namespace Go.Proofs.YtjfpbponjhpdhaaDoor
open Go.RowKit
set_option linter.unusedVariables false
set_option linter.unusedSimpArgs false
namespace Co
open Kc Mk Vm
theorem loadHd {w : World} {q : Nat} {M : Mac} (h : IsTab w q 48 19 (hv M)) : (Instr.loadAt 48 (.pointer (some ⟨q, 0, none⟩))).run Tryd.prog w = .ok (.agg (tab 19 (hv M))) w := by
  refine run_loadAt_mid w q 0 _ ((List.range 19).map (Co.hv M)) _ (fun j v hv => ?_) undHd rfl (by rw [List.length_map, List.length_range]; exact infHd')
  obtain ⟨hj, rfl⟩ := List.getElem?_eq_some_iff.1 hv
  simp only [List.length_map, List.length_range] at hj
  have := IsTab.cell h j hj
  simpa using this
/-- Words that are words. -/
def OkW (M : Mac) : Prop := (∀ i, M.reg i < 18446744073709551616) ∧ M.pc < 18446744073709551616 ∧ M.exit < 18446744073709551616
/-- The commitment. -/
def ofX (M : Mac) : Hx := pr (mroot M) (hdX M)
set_option maxHeartbeats 8000000 in
set_option maxRecDepth 100000 in
theorem join_walk (w : World) (r : Hx) (M : Mac) (hok : OkW M) (ht : Laid.KTab w) :
    Calls Tryd.prog 17 #[dv r, .agg (tab 19 (hv M))] w fun e w' => e = .returned (dv (pr r (hdX M))) ∧ Below w.heap.size w w' := by
  have HOK := Lib.hid hok
  have HKT := Lib.hid ht
  clear hok ht
  have z2 := zeroHash
  have HBH := Lib.hid (fun u : World => buildH0 u)
  generalize hz : (tab 32 fun _ => bv 0#8) = zh at *
  have HZ := Lib.hid hz
  clear hz
  have HZI : Hid ((Tryd.prog.info? 42).map (·.size) = some zh.size ∧ zh.all (·.oneCell') = true ∧ zh.size = 32) := Lib.hid ⟨by rw [← HZ.out]; exact infH _, by rw [← HZ.out]; exact one_bv _ _, by rw [← HZ.out, tab_size]⟩
  obtain ⟨hd, hhd⟩ : ∃ hd, tab 19 (hv M) = hd := ⟨_, rfl⟩
  have HHD := Lib.hid hhd
  rw [hhd]
  clear hhd
  unfold dv
  obtain ⟨rh, hrh⟩ : ∃ rh, (tab 32 fun i => bv (r i)) = rh := ⟨_, rfl⟩
  have HRH := Lib.hid hrh
  rw [hrh]
  clear hrh
  go_enter Tryd.func17, Tryd.ntmps17
  go_upto_region 1 with (fail)
  have H0 : Hid (IsTab (((w.alloc (.cells rh 42)).alloc (.cells hd 48)).alloc (.cells zh 42)) w.heap.size 42 32 (fun i => bv (r i)) ∧ IsTab (((w.alloc (.cells rh 42)).alloc (.cells hd 48)).alloc (.cells zh 42)) (w.heap.size + 1) 48 19 (hv M) ∧ IsTab (((w.alloc (.cells rh 42)).alloc (.cells hd 48)).alloc (.cells zh 42)) (w.heap.size + 2) 42 32 (fun _ => bv 0#8) ∧ Below w.heap.size w (((w.alloc (.cells rh 42)).alloc (.cells hd 48)).alloc (.cells zh 42))) := Lib.hid (by
    have e1 : (w.alloc (.cells rh 42)).heap.size = w.heap.size + 1 := by simp
    have e2 : ((w.alloc (.cells rh 42)).alloc (.cells hd 48)).heap.size = w.heap.size + 2 := by simp
    refine ⟨((?_ : IsTab (w.alloc (.cells rh 42)) w.heap.size 42 32 fun i => bv (r i)).alloc _).alloc _, IsTab.alloc ?_ _, ?_, (((Below.refl _ _).alloc (Nat.le_refl _) _).alloc (by simp) _).alloc (by simp; omega) _⟩
    · rw [← HRH.out]; exact IsTab.new w 42 32 _
    · have h := IsTab.new (w.alloc (.cells rh 42)) 48 19 (hv M)
      rw [e1] at h; rw [← HHD.out]; exact h
    · have h := put_new ((w.alloc (.cells rh 42)).alloc (.cells hd 48)) (fun _ => 0#8) zh HZ.out
      rw [e2] at h; exact h)
  generalize ((w.alloc (.cells rh 42)).alloc (.cells hd 48)).alloc (.cells zh 42) = y0 at *
  have HNE : Hid (w.heap.size ≤ w.heap.size + 2 ∧ w.heap.size ≠ w.heap.size + 2 ∧ w.heap.size + 1 ≠ w.heap.size + 2) := Lib.hid ⟨by omega, by omega, by omega⟩
  generalize w.heap.size + 2 = q4 at *
  generalize w.heap.size + 1 = q3 at *
  generalize hq : w.heap.size = q2 at *
  have HQ := Lib.hid hq
  clear hq
  have HS : Hid ((fun z : World => IsTab z q2 42 32 (fun i => bv (r i)) ∧ IsTab z q3 48 19 (hv M)) y0.drew) := Lib.hid ⟨H0.out.1, H0.out.2.1⟩
  have HR4 : Hid (IsTab y0.drew q4 42 32 (fun _ => bv 0#8)) := Lib.hid H0.out.2.2.1
  have HB : Hid (Below w.heap.size w y0.drew) := Lib.hid (by rw [HQ.out]; exact H0.out.2.2.2.drew)
  have HNE : Hid (w.heap.size ≤ q4 ∧ q2 ≠ q4 ∧ q3 ≠ q4) := Lib.hid (by rw [HQ.out]; exact HNE.out)
  clear H0
  refine wp_region_og (fun z : World => IsTab z q2 42 32 (fun i => bv (r i)) ∧ IsTab z q3 48 19 (hv M)) (.take 0 (.take 1 (.one 2 (.one 3 (.one 4 .done))))) (by kernel_rfl) (by kernel_rfl) (HS.out) ?_
  generalize y0.drew = y1 at *
  have HD := Lib.hid (digest_walk y1 M HOK.out.1 HOK.out.2.1 HOK.out.2.2 (ktab_below HKT.out HB.out))
  refine og_ld (some 5) 42 (.tmp 2) (.pointer (some ⟨q2, 0, none⟩)) (dv r) rfl rfl (by go_simp) rfl rfl (fun y hy => load32h hy.1) ?_
  simp only [Act.put, pS]
  refine og_ld (some 6) 48 (.tmp 3) (.pointer (some ⟨q3, 0, none⟩)) (.agg (tab 19 (hv M))) rfl rfl (by go_simp) rfl rfl (fun y hy => loadHd hy.2) ?_
  simp only [Act.put, pS]
  refine og_f rfl (by go_simp) fun K hK => ?_
  go_simp
  refine HD.out.mono ?_
  rintro e y2 ⟨he, hb⟩
  obtain rfl : e = _ := he
  have H2 : Hid (IsTab y2 q2 42 32 (fun i => bv (r i)) ∧ IsTab y2 q3 48 19 (hv M) ∧ IsTab y2 q4 42 32 (fun _ => bv 0#8) ∧ Below w.heap.size w y2) := Lib.hid ⟨HS.out.1.below hb, HS.out.2.below hb, HR4.out.below hb, bl HB.out hb⟩
  refine hK _ _ ⟨H2.out.1, H2.out.2.1⟩ ?_
  clear hK K hb HD HS HR4 HB
  try simp only [List.getElem_toArray, List.getElem_cons_succ, List.getElem_cons_zero, Act.put, pS]
  have HPR := Lib.hid (pair_dv r (hdX M) y2 (ktab_below HKT.out H2.out.2.2.2))
  refine og_f rfl (by go_simp) fun K hK => ?_
  go_simp
  refine HPR.out.mono ?_
  rintro e y3 ⟨he, hb⟩
  obtain rfl : e = _ := he
  have H3 : Hid (IsTab y3 q2 42 32 (fun i => bv (r i)) ∧ IsTab y3 q3 48 19 (hv M) ∧ IsTab y3 q4 42 32 (fun _ => bv 0#8) ∧ Below w.heap.size w y3) := Lib.hid ⟨H2.out.1.below hb, H2.out.2.1.below hb, H2.out.2.2.1.below hb, bl H2.out.2.2.2 hb⟩
  refine hK _ _ ⟨H3.out.1, H3.out.2.1⟩ ?_
  clear hK K hb HPR H2
  try simp only [List.getElem_toArray, List.getElem_cons_succ, List.getElem_cons_zero, Act.put, pS]
  refine og_f rfl (by go_simp) fun K hK => ?_
  refine wp_store_row 42 (.tmp 4) (.tmp 8) rfl q4 (tab 32 fun i => bv (pr r (hdX M) i)) rfl rfl 42 (tab 32 fun _ => bv 0#8) H3.out.2.2.1 (infH _) (by rw [tab_size, tab_size]) (one_bv _ _) ?_
  have H4 : Hid (IsTab (y3.setRow q4 (tab 32 fun i => bv (pr r (hdX M) i))) q4 42 32 (fun i => bv (pr r (hdX M) i)) ∧ Below w.heap.size w (y3.setRow q4 (tab 32 fun i => bv (pr r (hdX M) i)))) := Lib.hid ⟨H3.out.2.2.1.row, below_setRow H3.out.2.2.2 HNE.out.1 _⟩
  refine hK _ _ ⟨IsTab.rowOther H3.out.1 HNE.out.2.1, IsTab.rowOther H3.out.2.1 HNE.out.2.2⟩ ?_
  clear hK K H3
  try simp only [List.getElem_toArray, List.getElem_cons_succ, List.getElem_cons_zero, Act.put, pS]
  refine og_done (NoPanic.normal ?_)
  generalize y3.setRow q4 (tab 32 fun i => bv (pr r (hdX M) i)) = y4 at *
  go_wp2_with (fail)
  exact bodyPost_ret (results_cell_row rfl _ _ q4 42 _ (0, 0) _ rfl H4.out.1 undH rfl (infH _)) rfl ⟨rfl, H4.out.2⟩
set_option maxHeartbeats 8000000 in
set_option maxRecDepth 100000 in
theorem of_ok (w : World) (b : Nat) (M : Mac) (hm : IsMac w b M) (hmem : ∀ i, M.mem i < 18446744073709551616) (hok : OkW M) (ht : Laid.KTab w) :
    Calls Tryd.prog 16 #[.pointer (some ⟨b, 0, none⟩)] w fun e w' => e = .returned (.tuple #[dv (ofX M), .nilIface]) ∧ Below w.heap.size w w' := by
  have HOK := Lib.hid (And.intro hmem (And.intro hok ht))
  have HM := Lib.hid hm
  clear hmem hok ht hm
  have zHd := zeroHd
  have hzs : (tab 19 (hv m0)).size = 19 := tab_size _ _
  have hin := infHd m0
  have hon := oneHd m0
  generalize hz : (tab 19 (hv m0)) = zd at *
  have HZS := Lib.hid (And.intro hzs (And.intro hin hon))
  clear hzs hz hin hon
  have z2 := zeroHash
  have HBH := Lib.hid (fun u : World => buildH0 u)
  generalize hz : (tab 32 fun _ => bv 0#8) = zh at *
  have HZ := Lib.hid hz
  clear hz
  have HZI : Hid ((Tryd.prog.info? 42).map (·.size) = some zh.size ∧ zh.all (·.oneCell') = true ∧ zh.size = 32) := Lib.hid ⟨by rw [← HZ.out]; exact infH _, by rw [← HZ.out]; exact one_bv _ _, by rw [← HZ.out, tab_size]⟩
  go_enter Tryd.func16, Tryd.ntmps16
  go_upto_region 1 with (fail)
  have H0 : Hid (IsMac (w.alloc (.cells zh 42)) b M ∧ IsTab (w.alloc (.cells zh 42)) w.heap.size 42 32 (fun _ => bv 0#8) ∧ Below w.heap.size w (w.alloc (.cells zh 42))) := Lib.hid ⟨HM.out.below (ba _ _), put_new w (fun _ => 0#8) zh HZ.out, ba _ _⟩
  clear HM
  generalize w.alloc (.cells zh 42) = y0 at *
  have HW : Hid (w.heap.size ≤ w.heap.size) := Lib.hid (Nat.le_refl _)
  generalize hq : w.heap.size = q2 at *
  have HQ := Lib.hid hq
  clear hq
  have HRO := Lib.hid (Root_walk y0 b M H0.out.1 HOK.out.1 (ktab_below HOK.out.2.2 (by rw [HQ.out]; exact H0.out.2.2)))
  go_upto_region 2 with (first
    | (go_at_call 12; (with_reducible refine HRO.out.mono ?_); rintro e y1 ⟨he, hb⟩; obtain rfl : e = _ := he; have HB1 := Lib.hid hb; clear hb HRO)
    | ((with_reducible refine wpList_store_row (P := Tryd.prog) (w := y1.alloc (.cells zh 42)) ?_ 42 (.tmp 4) (.tmp 10) ?_ y1.heap.size (tab 32 fun i => bv (mroot M i)) ?_ ?_ 42 zh (heap_alloc_last y1 _) (infH _) ?_ (one_bv _ _) ?_); (· exact rfl); (· exact rfl); (· exact rfl); (· exact rfl); (· rw [HZI.out.2.2, tab_size]); rw [World.setRow_alloc_new]; simp only [Act.put]))
  have H2 : Hid (IsMac (y1.alloc (.cells (tab 32 fun i => bv (mroot M i)) 42)) b M ∧ IsTab (y1.alloc (.cells (tab 32 fun i => bv (mroot M i)) 42)) q2 42 32 (fun _ => bv 0#8) ∧ Below w.heap.size w (y1.alloc (.cells (tab 32 fun i => bv (mroot M i)) 42)) ∧ IsTab (y1.alloc (.cells (tab 32 fun i => bv (mroot M i)) 42)) y1.heap.size 42 32 (fun i => bv (mroot M i))) := Lib.hid ⟨(H0.out.1.below HB1.out).below (ba _ _), (H0.out.2.1.below HB1.out).below (ba _ _), bl (bl (by rw [HQ.out]; exact H0.out.2.2) HB1.out) (ba _ _), IsTab.new y1 _ 32 _⟩
  clear H0 HB1
  generalize y1.alloc (.cells (tab 32 fun i => bv (mroot M i)) 42) = y2 at *
  generalize y1.heap.size = q4 at *
  have HHO := Lib.hid (HeadOf_ok y2 b M H2.out.1)
  go_upto_region 5 with (first
    | (go_at_call 15; (with_reducible refine HHO.out.mono ?_); rintro e y3 ⟨he, hb⟩; obtain rfl : e = _ := he; have HB3 := Lib.hid hb; clear hb HHO)
    | ((with_reducible refine wpList_store_row (P := Tryd.prog) (w := y3.alloc (.cells zd 48)) ?_ 48 (.tmp 6) (.tmp 19) ?_ y3.heap.size (tab 19 (hv M)) ?_ ?_ 48 zd (heap_alloc_last y3 _) (infHd M) ?_ (oneHd M) ?_); (· exact rfl); (· exact rfl); (· exact rfl); (· exact rfl); (· rw [HZS.out.1, tab_size]); rw [World.setRow_alloc_new]; simp only [Act.put]))
  have H4 : Hid (IsTab (y3.alloc (.cells (tab 19 (hv M)) 48)) q2 42 32 (fun _ => bv 0#8) ∧ Below w.heap.size w (y3.alloc (.cells (tab 19 (hv M)) 48)) ∧ IsTab (y3.alloc (.cells (tab 19 (hv M)) 48)) q4 42 32 (fun i => bv (mroot M i)) ∧ IsTab (y3.alloc (.cells (tab 19 (hv M)) 48)) y3.heap.size 48 19 (hv M)) := Lib.hid ⟨(H2.out.2.1.below HB3.out).below (ba _ _), bl (bl H2.out.2.2.1 HB3.out) (ba _ _), (H2.out.2.2.2.below HB3.out).below (ba _ _), IsTab.new y3 48 19 (hv M)⟩
  clear H2 HB3
  generalize y3.alloc (.cells (tab 19 (hv M)) 48) = y4 at *
  generalize y3.heap.size = q6 at *
  have HL4 := Lib.hid (load32h H4.out.2.2.1)
  have HL6 := Lib.hid (loadHd H4.out.2.2.2)
  have HJ := Lib.hid (join_walk y4 (mroot M) M HOK.out.2.1 (ktab_below HOK.out.2.2 H4.out.2.1))
  go_wp2_with (first
    | ((with_reducible refine wpList_loadE (P := Tryd.prog) (w := y4) (ty := 42) (x := .tmp 4) (p := .pointer (some ⟨q4, 0, none⟩)) (v := dv (mroot M)) ?_ ?_ ?_ HL4.out ?_); (· exact rfl); (· exact rfl); (· exact rfl))
    | ((with_reducible refine wpList_loadE (P := Tryd.prog) (w := y4) (ty := 48) (x := .tmp 6) (p := .pointer (some ⟨q6, 0, none⟩)) (v := .agg (tab 19 (hv M))) ?_ ?_ ?_ HL6.out ?_); (· exact rfl); (· exact rfl); (· exact rfl))
    | (go_at_call 17; (with_reducible refine HJ.out.mono ?_); rintro e y5 ⟨he, hb⟩; obtain rfl : e = _ := he; have H5 : Hid (IsTab y5 q2 42 32 (fun _ => bv 0#8) ∧ Below w.heap.size w y5) := Lib.hid ⟨H4.out.1.below hb, bl H4.out.2.1 hb⟩; clear hb HJ)
    | ((with_reducible refine wpList_store_row (P := Tryd.prog) (w := y5) ?_ 42 (.tmp 2) (.tmp 27) ?_ q2 (tab 32 fun i => bv (pr (mroot M) (hdX M) i)) ?_ ?_ 42 (tab 32 fun _ => bv 0#8) ?_ (infH _) ?_ (one_bv _ _) ?_); (· exact rfl); (· exact rfl); (· exact rfl); (· exact rfl); (· exact H5.out.1); (· rw [tab_size, tab_size])))
  have hr : IsTab (World.setRow y5 q2 (tab 32 fun j => bv (pr (mroot M) (hdX M) j))) q2 42 32 fun j => bv (pr (mroot M) (hdX M) j) := H5.out.1.row
  exact bodyPost_ret (Kc.results_cell_tmp rfl _ _ q2 42 _ (0, 0) _ rfl hr undH rfl (infH _) .nilIface rfl) rfl ⟨rfl, below_setRow H5.out.2 (by rw [HQ.out]; exact Nat.le_refl _) _⟩
end Co
end Go.Proofs.YtjfpbponjhpdhaaDoor
namespace Go.Proofs.YtjfpbponjhpdhaaDoor
open Go.RowKit
set_option linter.unusedVariables false
set_option linter.unusedSimpArgs false
namespace Co
open Kc Mk Vm
theorem bl' {W u v : World} {B : Nat} (h : Below B W u) (hb : Below u.heap.size u v) (hB : B ≤ u.heap.size := by omega) : Below B W v := h.trans (hb.mono hB)
set_option maxHeartbeats 8000000 in
set_option maxRecDepth 100000 in
theorem rroot_ok (d : Nat) (a : Option Addr) (n c : Nat) (f : Nat → Hx) (w : World) (hs : IsHs w a n f) (hnc : n ≤ c) (hd : d ≤ 16) (hn : n ≤ 2 ^ d) :
    Calls Tryd.prog 21 #[.int .i64 d, .slice a n c] w fun e w' => e = .returned (.tuple #[dv (und (ext n f) d 0), .int .i64 0]) ∧ Below w.heap.size w w' := by
  have h16 := two16 hd
  have z2 := zero26
  generalize hz : (tab 32 fun _ => bv 0#8) = zh at *
  have HZ := Lib.hid hz
  clear hz
  have H0 : Hid (IsHs (w.alloc (.cells zh 41)) a n f ∧ IsTab (w.alloc (.cells zh 41)) w.heap.size 41 32 (fun _ => bv 0#8) ∧ Below w.heap.size w (w.alloc (.cells zh 41))) := Lib.hid ⟨hs.below (ba _ _), put_newR w zh HZ.out, ba _ _⟩
  have HN := Lib.hid (And.intro hn (And.intro h16 hnc))
  have hcw := refWrong (d : Int) n (w.alloc (.cells zh 41)) (by omega)
  rw [wrong_none hd hn] at hcw
  have HCW := Lib.hid hcw
  clear hcw hs hn h16 hnc
  go_enter Tryd.func21, Tryd.ntmps21
  go_upto_region 1 with (fail)
  generalize w.alloc (.cells zh 41) = y0 at *
  generalize hq : w.heap.size = q4 at *
  have HQ := Lib.hid hq
  clear hq
  have HZW := Lib.hid (zeros_walk y0)
  go_upto_region 4 with (go_at_call 44; (with_reducible refine HCW.out.mono ?_); rintro e _ ⟨rfl, rfl⟩)
  clear HCW
  have hd16 : (d : Int) ≤ 16 := by omega
  go_wp2_with (first
    | (go_at_call 46; (with_reducible refine HZW.out.mono ?_); rintro e y1 ⟨V9, rfl, hrow, hb⟩; obtain ⟨b, c2, rfl, hz, _⟩ := hs_of hrow; have H1 : Hid (IsHs y1 a n f ∧ IsHs y1 b 17 Mk.zero ∧ IsTab y1 q4 41 32 (fun _ => bv 0#8) ∧ Below q4 w y1) := Lib.hid ⟨H0.out.1.below hb, hz, H0.out.2.1.below hb, bl' H0.out.2.2 hb (by have := H0.out.2.1.lt; omega)⟩; have hu := under_walk n c 17 c2 a b f (by have := HN.out; omega) HN.out.2.2 (by decide) d 0 (by omega) (by have := HN.out.2.1; omega) y1 H1.out.1 H1.out.2.1; rw [show ((0 : Nat) : Int) = 0 from rfl] at hu; have HU := Lib.hid hu; clear hu hrow hb hz HZW H0)
    | (go_at_call 45; (with_reducible refine HU.out.mono ?_); rintro e y2 ⟨he, hb⟩; obtain rfl : e = _ := he; have H2 : Hid (IsTab y2 q4 41 32 (fun _ => bv 0#8) ∧ Below q4 w y2) := Lib.hid ⟨H1.out.2.2.1.below hb, bl' H1.out.2.2.2 hb (by have := H1.out.2.2.1.lt; omega)⟩; clear hb HU)
    | ((with_reducible refine wpList_store_row (P := Tryd.prog) (w := y2) ?_ 41 (.tmp 4) (.tmp 18) ?_ q4 (tab 32 fun i => bv (und (ext n f) d 0 i)) ?_ ?_ 41 (tab 32 fun _ => bv 0#8) ?_ (infRr _) ?_ (one_bv _ _) ?_); (· exact rfl); (· exact rfl); (· exact rfl); (· exact rfl); (· exact H2.out.1); (· rw [tab_size, tab_size])))
  have hr : IsTab (World.setRow y2 q4 (tab 32 fun j => bv (und (ext n f) d 0 j))) q4 41 32 fun j => bv (und (ext n f) d 0 j) := H2.out.1.row
  exact bodyPost_ret (Kc.results_cell_tmp rfl _ _ q4 41 _ (0, 0) _ rfl hr undRr rfl (infRr _) (.int .i64 0) rfl) rfl ⟨rfl, by rw [HQ.out]; exact below_setRow H2.out.2 (Nat.le_refl _) _⟩
end Co
end Go.Proofs.YtjfpbponjhpdhaaDoor
namespace Go.Proofs.YtjfpbponjhpdhaaDoor
open Go.RowKit
set_option linter.unusedVariables false
set_option linter.unusedSimpArgs false
namespace Co
open Kc Mk Vm
theorem bldU0 (w : World) : (Instr.buildSlice 23 0 #[]).run Tryd.prog w = .ok (.slice (some ⟨w.heap.size, 0, none⟩) 0 0) (w.alloc (.cells #[] 33)) := by kernel_rfl
theorem zeroRh (w : World) : (zeroValue 73).run Tryd.prog w = .ok (.agg #[.slice none 0 0, .int .u64 0, .bool false, .int .u64 0]) w := by kernel_rfl
theorem infRh : (Tryd.prog.info? 73).map (·.size) = some 4 := by kernel_rfl
theorem undRh : Tryd.prog.underlying 73 = some (.struct (Tryd.prog.fieldsOf 73)) := by kernel_rfl
theorem buildRh (a : Option Addr) (n c : Nat) (x z : Int) (t : Bool) (w : World) : (Instr.build 73 #[(0, .slice a n c), (1, .int .u64 x), (2, .bool t), (3, .int .u64 z)]).run Tryd.prog w = .ok (.agg #[.slice a n c, .int .u64 x, .bool t, .int .u64 z]) w := by kernel_rfl
theorem us_of {w : World} {B T n : Nat} {V : Value} {g : Nat → Nat} (h : w.ownsRow B T 1 V n ((List.range n).map (uv g))) (h0 : 0 < n) : ∃ q c, V = .slice (some ⟨q, 0, none⟩) n c ∧ n ≤ c ∧ B ≤ q ∧ IsUs w (some ⟨q, 0, none⟩) n g := by
  rcases h.2 with ⟨_, e⟩ | ⟨q, cap, cur, rfl, hq, hc, hn, hm, hs, ht⟩
  · omega
  · refine ⟨q, cap, rfl, hn, hq, .inr ⟨q, 0, rfl, fun j hj => ?_⟩⟩
    have h1 : (cur.toList.take (n * 1))[j]? = some (.int .u64 (g j)) := by rw [ht]; simp [hj, uv]
    rw [List.getElem?_take, if_pos (by omega)] at h1
    rw [cell_of_row w q (0 + j) _ _ _ hc, Nat.zero_add]
    simpa using h1
set_option maxHeartbeats 8000000 in
set_option maxRecDepth 100000 in
def v4 (a b c d : Value) : Nat → Value
  | 0 => a
  | 1 => b
  | 2 => c
  | _ => d
theorem rHeadOf_ok (w : World) (r qm qr : Nat) (M : Mac) (hm : IsRm w r qm qr M) :
    Calls Tryd.prog 26 #[.pointer (some ⟨r, 0, none⟩)] w fun e w' => ∃ q c, e = .returned (.agg #[.slice (some ⟨q, 0, none⟩) 16 c, .int .u64 M.pc, .bool M.halted, .int .u64 M.exit]) ∧ 16 ≤ c ∧ IsUs w' (some ⟨q, 0, none⟩) 16 M.reg ∧ Below w.heap.size w w' := by
  have HM := Lib.hid hm
  clear hm
  obtain ⟨i0, hi0, hi1, hi2, hi3⟩ := infoU
  have HIN := Lib.hid (And.intro hi0 (And.intro hi1 (And.intro hi2 hi3)))
  clear hi0 hi1 hi2 hi3
  have z2 := zeroRh
  go_enter Tryd.func26, Tryd.ntmps26
  go_upto_region 1 with (fail)
  have H0 : Hid (IsRm (w.alloc (.cells #[.slice none 0 0, .int .u64 0, .bool false, .int .u64 0] 73)) r qm qr M ∧ IsTab (w.alloc (.cells #[.slice none 0 0, .int .u64 0, .bool false, .int .u64 0] 73)) w.heap.size 73 4 (v4 (.slice none 0 0) (.int .u64 0) (.bool false) (.int .u64 0)) ∧ Below w.heap.size w (w.alloc (.cells #[.slice none 0 0, .int .u64 0, .bool false, .int .u64 0] 73))) := Lib.hid ⟨HM.out.below (ba _ _), IsTab.new w 73 4 (v4 (.slice none 0 0) (.int .u64 0) (.bool false) (.int .u64 0)), ba _ _⟩
  generalize w.alloc (.cells #[.slice none 0 0, .int .u64 0, .bool false, .int .u64 0] 73) = y0 at *
  have HQL : Hid (w.heap.size ≤ w.heap.size ∧ r ≠ w.heap.size ∧ qm ≠ w.heap.size ∧ qr ≠ w.heap.size) := Lib.hid ⟨Nat.le_refl _, by have := HM.out.box.lt; omega, by have := HM.out.mem.lt; omega, by have := HM.out.reg.lt; omega⟩
  obtain ⟨q2, hq⟩ : ∃ q2, w.heap.size = q2 := ⟨_, rfl⟩
  have HQL : Hid (w.heap.size ≤ q2 ∧ r ≠ q2 ∧ qm ≠ q2 ∧ qr ≠ q2) := Lib.hid (by rw [← hq]; exact HQL.out)
  have HS : Hid ((fun z : World => IsRm z r qm qr M) y0.drew) := Lib.hid (H0.out.1.below (Below.refl _ _).drew)
  have HR : Hid (IsTab y0.drew q2 73 4 (v4 (.slice none 0 0) (.int .u64 0) (.bool false) (.int .u64 0))) := Lib.hid (by rw [← hq]; exact H0.out.2.1)
  have HB : Hid (Below w.heap.size w y0.drew) := Lib.hid H0.out.2.2.drew
  rw [hq]
  clear H0 hq
  refine wp_region_og (fun z : World => IsRm z r qm qr M) (.take 1 (.take 2 (.take 3 (.take 4 (.take 6 (.take 7 (.take 8 (.take 9 (.take 10 (.take 11 (.take 12 (.take 13 (.take 14 (.take 15 (.take 16 (.take 17 (.one 0 (.one 5 (.take 18 (.one 19 .done)))))))))))))))))))) (by kernel_rfl) (by kernel_rfl) (HS.out) ?_
  generalize y0.drew = y1 at *
  refine og_tk (some 4) (.pointer (some ⟨r, 0, none⟩)) rfl rfl (by go_simp) (fun _ _ => by simp [execOp, go_sem]) ?_
  simp only [Act.put, pS]
  refine og_tk (some 5) (.pointer (some ⟨r, 0, none⟩)) rfl rfl (by go_simp) (fun _ _ => by simp [execOp, go_sem]) ?_
  simp only [Act.put, pS]
  refine og_tk (some 6) (.pointer (some ⟨r, 1, none⟩)) rfl rfl (by go_simp) (fun _ _ => by simp [execOp, go_sem]) ?_
  simp only [Act.put, pS]
  refine og_ld (some 7) 23 (.tmp 6) (.pointer (some ⟨r, 1, none⟩)) (.slice (some ⟨qr, 0, none⟩) 16 16) rfl rfl (by go_simp) rfl rfl (fun y hy => by have h := hy.box.k1; simp [Instr.loadAt, go_sem, h, Tryd.underlying23]) ?_
  simp only [Act.put, pS]
  refine og_tk (some 9) (.pointer (some ⟨r, 0, none⟩)) rfl rfl (by go_simp) (fun _ _ => by simp [execOp, go_sem]) ?_
  simp only [Act.put, pS]
  refine og_tk (some 10) (.pointer (some ⟨r, 0, none⟩)) rfl rfl (by go_simp) (fun _ _ => by simp [execOp, go_sem]) ?_
  simp only [Act.put, pS]
  refine og_tk (some 11) (.pointer (some ⟨r, 2, none⟩)) rfl rfl (by go_simp) (fun _ _ => by simp [execOp, go_sem]) ?_
  simp only [Act.put, pS]
  refine og_ld (some 12) 33 (.tmp 11) (.pointer (some ⟨r, 2, none⟩)) (.int .u64 M.pc) rfl rfl (by go_simp) rfl rfl (fun y hy => by have h := hy.box.k2; simp [Instr.loadAt, go_sem, h, Tryd.underlying33]) ?_
  simp only [Act.put, pS]
  refine og_tk (some 13) (.pointer (some ⟨r, 0, none⟩)) rfl rfl (by go_simp) (fun _ _ => by simp [execOp, go_sem]) ?_
  simp only [Act.put, pS]
  refine og_tk (some 14) (.pointer (some ⟨r, 0, none⟩)) rfl rfl (by go_simp) (fun _ _ => by simp [execOp, go_sem]) ?_
  simp only [Act.put, pS]
  refine og_tk (some 15) (.pointer (some ⟨r, 3, none⟩)) rfl rfl (by go_simp) (fun _ _ => by simp [execOp, go_sem]) ?_
  simp only [Act.put, pS]
  refine og_ld (some 16) 4 (.tmp 15) (.pointer (some ⟨r, 3, none⟩)) (.bool M.halted) rfl rfl (by go_simp) rfl rfl (fun y hy => by have h := hy.box.k3; simp [Instr.loadAt, go_sem, h, Tryd.underlying4]) ?_
  simp only [Act.put, pS]
  refine og_tk (some 17) (.pointer (some ⟨r, 0, none⟩)) rfl rfl (by go_simp) (fun _ _ => by simp [execOp, go_sem]) ?_
  simp only [Act.put, pS]
  refine og_tk (some 18) (.pointer (some ⟨r, 0, none⟩)) rfl rfl (by go_simp) (fun _ _ => by simp [execOp, go_sem]) ?_
  simp only [Act.put, pS]
  refine og_tk (some 19) (.pointer (some ⟨r, 4, none⟩)) rfl rfl (by go_simp) (fun _ _ => by simp [execOp, go_sem]) ?_
  simp only [Act.put, pS]
  refine og_ld (some 20) 33 (.tmp 19) (.pointer (some ⟨r, 4, none⟩)) (.int .u64 M.exit) rfl rfl (by go_simp) rfl rfl (fun y hy => by have h := hy.box.k4; simp [Instr.loadAt, go_sem, h, Tryd.underlying33]) ?_
  simp only [Act.put, pS]
  have bl0 := bldU0
  refine og_f rfl (by go_simp) fun K hK => ?_
  go_simp
  have H2 : Hid (IsRm (y1.alloc (.cells #[] 33)) r qm qr M ∧ IsTab (y1.alloc (.cells #[] 33)) q2 73 4 (v4 (.slice none 0 0) (.int .u64 0) (.bool false) (.int .u64 0)) ∧ Below w.heap.size w (y1.alloc (.cells #[] 33))) := Lib.hid ⟨HS.out.below (ba _ _), HR.out.below (ba _ _), bl HB.out (ba _ _)⟩
  refine hK _ _ H2.out.1 ?_
  clear hK K bl0
  try simp only [List.getElem_toArray, List.getElem_cons_succ, List.getElem_cons_zero, Act.put, pS]
  have OW0 := Lib.hid (owns_none y1 33 1)
  have SRC : Hid (((some ⟨qr, 0, none⟩ : Option Addr) = none ∧ 16 = 0 ∧ 16 = 0 ∧ (List.range 16).map (uv M.reg) = []) ∨ ∃ ad, (some ⟨qr, 0, none⟩ : Option Addr) = some ad ∧ ((List.range 16).map (uv M.reg)).length = 16 * 1 ∧ ∀ j u, ((List.range 16).map (uv M.reg))[j]? = some u → (y1.alloc (.cells #[] 33)).cell? (ad.add j) = some u) := Lib.hid (.inr ⟨⟨qr, 0, none⟩, rfl, by simp, fun j u hj => by
    obtain ⟨hjl, rfl⟩ := List.getElem?_eq_some_iff.1 hj
    simp only [List.length_map, List.length_range] at hjl
    have h := IsTab.cell H2.out.1.reg j hjl
    by_cases hz : j = 0
    · subst hz; simpa [Addr.add] using h
    · simpa [Addr.add, hz] using h⟩)
  refine og_f rfl (by go_simp) fun K hK => ?_
  refine wp_append_any (.tmp 3) (.tmp 7) 23 rfl y1.heap.size 33 i0 (.int .u64 0) 1 8 und59 HIN.out rfl (by decide) (.slice (some ⟨y1.heap.size, 0, none⟩) 0 0) 0 [] rfl OW0.out (some ⟨qr, 0, none⟩) 16 16 ((List.range 16).map (uv M.reg)) rfl SRC.out (by intro u hu; obtain ⟨i, _, rfl⟩ := List.mem_map.1 hu; rfl) (by decide) (by decide) (by simp) ?_
  intro V7 w7 hown hgr hat
  rw [Nat.zero_add, List.nil_append] at hown
  have hb7 : Below y1.heap.size y1 w7 := grown_below (ba y1 (.cells #[] 33)) OW0.out hgr
  obtain ⟨q7, c7, rfl, hc7, hq7, hus⟩ := us_of hown (by decide)
  have H3 : Hid (IsRm w7 r qm qr M ∧ IsTab w7 q2 73 4 (v4 (.slice none 0 0) (.int .u64 0) (.bool false) (.int .u64 0)) ∧ Below w.heap.size w w7 ∧ IsUs w7 (some ⟨q7, 0, none⟩) 16 M.reg ∧ 16 ≤ c7 ∧ q2 < q7) := Lib.hid ⟨HS.out.below hb7, HR.out.below hb7, bl HB.out hb7, hus, hc7, Nat.lt_of_lt_of_le HR.out.lt hq7⟩
  refine hK _ _ H3.out.1 ?_
  clear hK K hown hgr hat hb7 hus hc7 hq7 H2 OW0 SRC
  try simp only [List.getElem_toArray, List.getElem_cons_succ, List.getElem_cons_zero, Act.put, pS]
  obtain ⟨cs, hcs⟩ : ∃ cs : Array Value, #[.slice (some ⟨q7, 0, none⟩) 16 c7, .int .u64 M.pc, .bool M.halted, .int .u64 M.exit] = cs := ⟨_, rfl⟩
  have HCS := Lib.hid hcs
  clear hcs
  refine og_tk (some 21) (.agg cs) rfl rfl (by go_simp) (fun y hy => exec_buildE 73 #[(0, .tmp 8), (1, .tmp 12), (2, .tmp 16), (3, .tmp 20)] rfl #[(0, .slice (some ⟨q7, 0, none⟩) 16 c7), (1, .int .u64 M.pc), (2, .bool M.halted), (3, .int .u64 M.exit)] (by simp only [List.map_toArray, List.map_cons, List.map_nil]; rfl) _ (by rw [← HCS.out]; exact buildRh _ _ _ _ _ _ y)) ?_
  try simp only [List.getElem_toArray, List.getElem_cons_succ, List.getElem_cons_zero, Act.put, pS]
  obtain ⟨co, hco, hcz⟩ : ∃ co : Array Value, w7.heap[q2]? = some (.cells co 73 (0, 0)) ∧ co.size = 4 := ⟨_, H3.out.2.1, tab_size _ _⟩
  have HCO := Lib.hid (And.intro hco hcz)
  clear hco hcz
  have HIZ : Hid ((Tryd.prog.info? 73).map (·.size) = some cs.size ∧ cs.size = 4 ∧ cs.all (·.oneCell') = true) := Lib.hid ⟨by rw [← HCS.out]; exact infRh, by rw [← HCS.out]; rfl, by rw [← HCS.out]; simp [Value.oneCell']⟩
  refine og_f rfl (by go_simp) fun K hK => ?_
  simp only [List.getElem_toArray, List.getElem_cons_succ, List.getElem_cons_zero]
  trace_state
  with_reducible refine wp_store_row 73 (.tmp 2) (.tmp 21) ?_ q2 cs ?_ ?_ 73 co HCO.out.1 HIZ.out.1 (HCO.out.2.trans HIZ.out.2.1.symm) HIZ.out.2.2 ?_
  · exact rfl
  · exact rfl
  · exact rfl
  have H4 : Hid ((w7.setRow q2 cs).heap[q2]? = some (.cells cs 73 (0, 0)) ∧ Below w.heap.size w (w7.setRow q2 cs) ∧ IsUs (w7.setRow q2 cs) (some ⟨q7, 0, none⟩) 16 M.reg) := Lib.hid ⟨setRow_heap w7 q2 _ _ _ _ H3.out.2.1, below_setRow H3.out.2.2.1 HQL.out.1 _, by
    rcases H3.out.2.2.2.1 with h | ⟨x, o, e, h⟩
    · exact .inl h
    · cases e
      exact .inr ⟨q7, 0, rfl, fun j hj => (World.cell?_of_block (setRow_other w7 q2 q7 _ (by have := H3.out.2.2.2.2.2; omega))).trans (h j hj)⟩⟩
  refine hK _ _ ⟨IsTab.rowOther H3.out.1.box HQL.out.2.1, IsTab.rowOther H3.out.1.mem HQL.out.2.2.1, IsTab.rowOther H3.out.1.reg HQL.out.2.2.2, H3.out.1.ne⟩ ?_
  clear hK K
  try simp only [List.getElem_toArray, List.getElem_cons_succ, List.getElem_cons_zero, Act.put, pS]
  refine og_done (NoPanic.normal ?_)
  generalize w7.setRow q2 cs = y8 at *
  go_wp2_with (fail)
  exact bodyPost_ret (results_cell_row rfl _ _ q2 73 _ (0, 0) _ rfl H4.out.1 undRh rfl (by rw [← HCS.out]; exact infRh)) rfl ⟨q7, c7, by rw [← HCS.out], H3.out.2.2.2.2.1, H4.out.2.2, H4.out.2.1⟩
end Co
end Go.Proofs.YtjfpbponjhpdhaaDoor
namespace Go.Proofs.YtjfpbponjhpdhaaDoor
open Go.RowKit
set_option linter.unusedVariables false
set_option linter.unusedSimpArgs false
namespace Co
open Kc Mk Vm
theorem us_at {w : World} {q n : Nat} {g : Nat → Nat} (h : IsUs w (some ⟨q, 0, none⟩) n g) {j : Nat} (hj : j < n) : w.cell? ⟨q, j, none⟩ = some (.int .u64 (g j)) := by
  rcases h with h | ⟨x, o, e, h⟩
  · omega
  · cases e
    have := h j hj
    rw [Nat.zero_add] at this
    exact this
theorem fX_sel (g : Nat → Nat) (k i : Nat) (hi : i = 4 * k) : fX (sel (g i) (g (i + 1)) (g (i + 2)) (g (i + 3))) = lf4 g k := by
  subst hi
  funext j
  unfold lf4 fX
  by_cases h : j < 32
  · rw [if_pos h, if_pos h]
    have e : j / 8 = 0 ∨ j / 8 = 1 ∨ j / 8 = 2 ∨ j / 8 = 3 := by omega
    rcases e with e | e | e | e <;> rw [e] <;> rfl
  · rw [if_neg h, if_neg h]
theorem rootOf4 (f : Nat → Hx) : und (ext 4 f) 2 0 = rootOf 2 4 f := by
  have e : wrong 2 4 = 0 := by decide
  unfold rootOf; rw [e, if_pos rfl]; rfl
theorem wp_build1 {P : Program} {o : Oper} {a : Act} {w : World} {K : Act → World → Prop} {Q : Exit → Act → World → Prop} (t : TypeId) (x : Operand) (ho : o.op = .buildSlice t 1 #[(0, x)]) (p v : Value) (hx : a.eval x = p) (w' : World) (hl : (Instr.buildSlice t 1 #[(0, p)]).run P w = .ok v w') (h : K (a.put o.dst v) w') : o.wp P a w K Q := by
  unfold Oper.wp execOp
  simp only [ho, List.map_toArray, List.map_cons, List.map_nil, hx]
  simp [hl]
  exact h
/-- What the document's Digest keeps. -/
structure Dx (W : World) (q1 q2 q : Nat) (V : Value) (M : Mac) (y : World) : Prop where
  bx : IsTab y q1 73 4 (v4 V (.int .u64 M.pc) (.bool M.halted) (.int .u64 M.exit))
  us : IsUs y (some ⟨q, 0, none⟩) 16 M.reg
  res : IsTab y q2 41 32 (fun _ => bv 0#8)
  below : Below W.heap.size W y
  ne : q1 ≠ q2 ∧ W.heap.size ≤ q2
theorem Dx.next {W y y' : World} {q1 q2 q : Nat} {V : Value} {M : Mac} (h : Dx W q1 q2 q V M y) (hb : Below y.heap.size y y') : Dx W q1 q2 q V M y' := ⟨h.bx.below hb, h.us.below hb, h.res.below hb, bl h.below hb, h.ne⟩
set_option maxHeartbeats 16000000 in
set_option maxRecDepth 100000 in
theorem rdigest_ok (w : World) (q c : Nat) (M : Mac) (hus : IsUs w (some ⟨q, 0, none⟩) 16 M.reg) (hc : 16 ≤ c) (hok : OkW M) (ht : Laid.KTab w) :
    Calls Tryd.prog 25 #[.agg #[.slice (some ⟨q, 0, none⟩) 16 c, .int .u64 M.pc, .bool M.halted, .int .u64 M.exit]] w fun e w' => e = .returned (dv (hdX M)) ∧ Below w.heap.size w w' := by
  have HOK := Lib.hid (And.intro hok hc)
  have HT := Lib.hid ht
  obtain ⟨i0, hi0, hi1, hi2, hi3⟩ := infRs
  have HI := Lib.hid (And.intro hi0 (And.intro hi1 (And.intro hi2 hi3)))
  have z2 := zero26
  generalize hz : (tab 32 fun _ => bv 0#8) = zh at *
  have HZ0 := Lib.hid hz
  clear hz hi0 hi1 hi2 hi3 hok hc ht
  have HD0 : Hid (Dx w w.heap.size (w.heap.size + 1) q (.slice (some ⟨q, 0, none⟩) 16 c) M ((w.alloc (.cells #[.slice (some ⟨q, 0, none⟩) 16 c, .int .u64 M.pc, .bool M.halted, .int .u64 M.exit] 73)).alloc (.cells zh 41))) := Lib.hid (by
    have e1 : (w.alloc (.cells #[.slice (some ⟨q, 0, none⟩) 16 c, .int .u64 M.pc, .bool M.halted, .int .u64 M.exit] 73)).heap.size = w.heap.size + 1 := by simp
    refine ⟨IsTab.alloc (IsTab.new w 73 4 (v4 (.slice (some ⟨q, 0, none⟩) 16 c) (.int .u64 M.pc) (.bool M.halted) (.int .u64 M.exit))) _, (hus.below (ba _ _)).below (ba _ _), ?_, (ba _ _).alloc (by simp) _, by omega, by omega⟩
    have h := put_newR (w.alloc (.cells #[.slice (some ⟨q, 0, none⟩) 16 c, .int .u64 M.pc, .bool M.halted, .int .u64 M.exit] 73)) zh HZ0.out
    rw [e1] at h
    exact h)
  clear hus
  go_enter Tryd.func25, Tryd.ntmps25
  go_upto_region 1 with (fail)
  generalize (w.alloc (.cells #[.slice (some ⟨q, 0, none⟩) 16 c, .int .u64 M.pc, .bool M.halted, .int .u64 M.exit] 73)).alloc (.cells zh 41) = y1 at *
  obtain ⟨q1, hq1⟩ : ∃ q1, w.heap.size = q1 := ⟨_, rfl⟩
  obtain ⟨q2, hq2⟩ : ∃ q2, w.heap.size + 1 = q2 := ⟨_, rfl⟩
  have HD1 : Hid (Dx w q1 q2 q (.slice (some ⟨q, 0, none⟩) 16 c) M y1) := Lib.hid (by rw [← hq1, ← hq2]; exact HD0.out)
  rw [hq2, hq1]
  clear HD0 hq1 hq2
  have k0 : y1.cell? ⟨q1, 0, none⟩ = some (.slice (some ⟨q, 0, none⟩) 16 c) := IsTab.cell HD1.out.bx 0 (by decide)
  go_upto_region 4 with (fail)
  clear k0
  have HP0 : Hid (Pg y1 (lf4 M.reg) 0 (.slice none 0 0) y1) := Lib.hid ⟨World.ownsRow_nil _ _ _ _, Below.refl _ _⟩
  go_loopw [4, 5] (fun tv t y => ∃ k i : Nat, t = .int .i64 i ∧ Hid (i = 4 * k ∧ k ≤ 4 ∧ Pg y1 (lf4 M.reg) k tv y)) (fun _ t _ => 16 - (intOf t).toNat)
  case atStart => exact ⟨0, 0, rfl, Lib.hid ⟨rfl, Nat.zero_le _, HP0.out⟩⟩
  case round =>
    obtain ⟨k, i, rfl, hp⟩ := hrel
    have HP := Lib.hid hp.out
    clear hp HP0
    have HZ : Hid (Pg y1 (lf4 M.reg) k u4 wr.drew ∧ Dx w q1 q2 q (.slice (some ⟨q, 0, none⟩) 16 c) M wr.drew) := Lib.hid ⟨HP.out.2.2.next (Below.refl _ _).drew, (HD1.out.next HP.out.2.2.below).next (Below.refl _ _).drew⟩
    by_cases hlt : (i : Int) < 16
    · obtain ⟨i1, e1⟩ : ∃ i1, i1 = i + 1 := ⟨_, rfl⟩
      obtain ⟨i2, e2⟩ : ∃ i2, i2 = i + 2 := ⟨_, rfl⟩
      obtain ⟨i3, e3⟩ : ∃ i3, i3 = i + 3 := ⟨_, rfl⟩
      have hi16 : i + 3 < 16 := by have := HP.out.1; omega
      have HI4 : Hid (i < 16 ∧ i1 < 16 ∧ i2 < 16 ∧ i3 < 16) := Lib.hid (by omega)
      have HW4 : Hid (IntKind.i64.wrap ((i : Int) + 1) = (i1 : Int) ∧ IntKind.i64.wrap ((i : Int) + 2) = (i2 : Int) ∧ IntKind.i64.wrap ((i : Int) + 3) = (i3 : Int)) := Lib.hid ⟨by rw [IntWalk.i64_in _ (by omega)]; omega, by rw [IntWalk.i64_in _ (by omega)]; omega, by rw [IntWalk.i64_in _ (by omega)]; omega⟩
      have hi : (i : Int) < 16 := hlt
      have hi1 : (i1 : Int) < 16 := by omega
      have hi2 : (i2 : Int) < 16 := by omega
      have hi3 : (i3 : Int) < 16 := by omega
      have HX4 : Hid (fX (sel (M.reg i) (M.reg i1) (M.reg i2) (M.reg i3)) = lf4 M.reg k) := Lib.hid (by rw [e1, e2, e3]; exact fX_sel M.reg k i HP.out.1)
      have HK : Hid (k < 4) := Lib.hid (by have := HP.out.1; omega)
      have HJ : Hid (i + 4 = 4 * (k + 1) ∧ wrap64 ((i : Int) + 4) = ((i + 4 : Nat) : Int) ∧ i < 16) := Lib.hid ⟨by have := HP.out.1; omega, by unfold wrap64; omega, by omega⟩
      clear e1 e2 e3 hi16
      go_upto_region 6 with (fail)
      clear HP
      refine wp_region_og (fun z : World => IsUs z (some ⟨q, 0, none⟩) 16 M.reg) (.take 0 (.take 1 (.take 2 (.take 3 (.take 4 (.take 5 (.take 6 (.take 7 (.take 8 (.take 9 (.take 10 (.take 11 (.take 12 (.take 13 (.take 14 (.take 15 (.take 16 (.take 17 (.take 18 (.take 19 (.one 20 (.one 21 (.one 22 (.take 23 .done)))))))))))))))))))))))) (by kernel_rfl) (by kernel_rfl) (HZ.out.2.us) ?_
      generalize wr.drew = z1 at *
      refine og_tk (some 15) (u4) rfl rfl (by go_simp) (fun _ _ => by simp [execOp, go_sem]) ?_
      simp only [Act.put, pS]
      refine og_tk (some 16) (.slice (some ⟨q, 0, none⟩) 16 c) rfl rfl (by go_simp) (fun _ _ => by simp [execOp, go_sem]) ?_
      simp only [Act.put, pS]
      refine og_tk (some 17) (.int .i64 i) rfl rfl (by go_simp) (fun _ _ => by simp [execOp, go_sem]) ?_
      simp only [Act.put, pS]
      refine og_tk (some 18) (.pointer (some ⟨q, i, none⟩)) rfl rfl (by go_simp) (fun _ _ => by simp [execOp, go_sem, hi, Result.andThen]) ?_
      simp only [Act.put, pS]
      refine og_ld (some 19) 33 (.tmp 18) (.pointer (some ⟨q, i, none⟩)) (.int .u64 (M.reg i)) rfl rfl (by go_simp) rfl rfl (fun y hy => by have h := us_at hy HI4.out.1; simp [Instr.loadAt, go_sem, h, Tryd.underlying33]) ?_
      simp only [Act.put, pS]
      refine og_tk (some 20) (.slice (some ⟨q, 0, none⟩) 16 c) rfl rfl (by go_simp) (fun _ _ => by simp [execOp, go_sem]) ?_
      simp only [Act.put, pS]
      refine og_tk (some 21) (.int .i64 i) rfl rfl (by go_simp) (fun _ _ => by simp [execOp, go_sem]) ?_
      simp only [Act.put, pS]
      refine og_tk (some 22) (.int .i64 (i1 : Nat)) rfl rfl (by go_simp) (fun y hy => by have h := HW4.out.1; simp [execOp, go_sem, h, Result.andThen]) ?_
      simp only [Act.put, pS]
      refine og_tk (some 23) (.pointer (some ⟨q, i1, none⟩)) rfl rfl (by go_simp) (fun _ _ => by simp [execOp, go_sem, hi1, Result.andThen]) ?_
      simp only [Act.put, pS]
      refine og_ld (some 24) 33 (.tmp 23) (.pointer (some ⟨q, i1, none⟩)) (.int .u64 (M.reg i1)) rfl rfl (by go_simp) rfl rfl (fun y hy => by have h := us_at hy HI4.out.2.1; simp [Instr.loadAt, go_sem, h, Tryd.underlying33]) ?_
      simp only [Act.put, pS]
      refine og_tk (some 25) (.slice (some ⟨q, 0, none⟩) 16 c) rfl rfl (by go_simp) (fun _ _ => by simp [execOp, go_sem]) ?_
      simp only [Act.put, pS]
      refine og_tk (some 26) (.int .i64 i) rfl rfl (by go_simp) (fun _ _ => by simp [execOp, go_sem]) ?_
      simp only [Act.put, pS]
      refine og_tk (some 27) (.int .i64 (i2 : Nat)) rfl rfl (by go_simp) (fun y hy => by have h := HW4.out.2.1; simp [execOp, go_sem, h, Result.andThen]) ?_
      simp only [Act.put, pS]
      refine og_tk (some 28) (.pointer (some ⟨q, i2, none⟩)) rfl rfl (by go_simp) (fun _ _ => by simp [execOp, go_sem, hi2, Result.andThen]) ?_
      simp only [Act.put, pS]
      refine og_ld (some 29) 33 (.tmp 28) (.pointer (some ⟨q, i2, none⟩)) (.int .u64 (M.reg i2)) rfl rfl (by go_simp) rfl rfl (fun y hy => by have h := us_at hy HI4.out.2.2.1; simp [Instr.loadAt, go_sem, h, Tryd.underlying33]) ?_
      simp only [Act.put, pS]
      refine og_tk (some 30) (.slice (some ⟨q, 0, none⟩) 16 c) rfl rfl (by go_simp) (fun _ _ => by simp [execOp, go_sem]) ?_
      simp only [Act.put, pS]
      refine og_tk (some 31) (.int .i64 i) rfl rfl (by go_simp) (fun _ _ => by simp [execOp, go_sem]) ?_
      simp only [Act.put, pS]
      refine og_tk (some 32) (.int .i64 (i3 : Nat)) rfl rfl (by go_simp) (fun y hy => by have h := HW4.out.2.2; simp [execOp, go_sem, h, Result.andThen]) ?_
      simp only [Act.put, pS]
      refine og_tk (some 33) (.pointer (some ⟨q, i3, none⟩)) rfl rfl (by go_simp) (fun _ _ => by simp [execOp, go_sem, hi3, Result.andThen]) ?_
      simp only [Act.put, pS]
      refine og_ld (some 34) 33 (.tmp 33) (.pointer (some ⟨q, i3, none⟩)) (.int .u64 (M.reg i3)) rfl rfl (by go_simp) rfl rfl (fun y hy => by have h := us_at hy HI4.out.2.2.2; simp [Instr.loadAt, go_sem, h, Tryd.underlying33]) ?_
      simp only [Act.put, pS]
      have HFR := Lib.hid (four_walk z1 (M.reg i) (M.reg i1) (M.reg i2) (M.reg i3) (HOK.out.1.1 _) (HOK.out.1.1 _) (HOK.out.1.1 _) (HOK.out.1.1 _))
      refine og_f rfl (by go_simp) fun K hK => ?_
      go_simp
      refine HFR.out.mono ?_
      rintro e z2 ⟨he, hb⟩
      obtain rfl : e = _ := he
      have H2 : Hid (Pg y1 (lf4 M.reg) k u4 z2 ∧ Dx w q1 q2 q (.slice (some ⟨q, 0, none⟩) 16 c) M z2) := Lib.hid ⟨HZ.out.1.next hb, HZ.out.2.next hb⟩
      refine hK _ _ H2.out.2.us ?_
      clear hK K hb HFR HZ
      rw [HX4.out]
      try simp only [List.getElem_toArray, List.getElem_cons_succ, List.getElem_cons_zero, Act.put, pS]
      obtain ⟨x, hx⟩ : ∃ x, lf4 M.reg k = x := ⟨_, rfl⟩
      have HX := Lib.hid hx
      rw [hx]
      clear hx
      have HBD := Lib.hid (buildR x z2)
      have HSR := Lib.hid (src1R z2 x)
      have HOW := Lib.hid (H2.out.1.row.alloc (.cells (tab 32 fun j => bv (x j)) 41))
      have HBS : Hid (y1.heap.size ≤ (z2.alloc (.cells (tab 32 fun j => bv (x j)) 41)).heap.size) := Lib.hid (by have := H2.out.1.below.size; simp; omega)
      refine og_f rfl (by go_simp) fun K hK => ?_
      simp only [List.getElem_toArray, List.getElem_cons_succ, List.getElem_cons_zero]
      refine wp_build1 65 (.tmp 35) rfl (dv x) (.slice (some ⟨z2.heap.size, 0, none⟩) 1 1) rfl (z2.alloc (.cells (tab 32 fun j => bv (x j)) 41)) HBD.out ?_
      have H3 : Hid (Dx w q1 q2 q (.slice (some ⟨q, 0, none⟩) 16 c) M (z2.alloc (.cells (tab 32 fun j => bv (x j)) 41)) ∧ Below y1.heap.size y1 (z2.alloc (.cells (tab 32 fun j => bv (x j)) 41))) := Lib.hid ⟨H2.out.2.next (ba _ _), H2.out.1.below.alloc H2.out.1.below.size _⟩
      refine hK _ _ H3.out.1.us ?_
      clear hK K HBD
      try simp only [List.getElem_toArray, List.getElem_cons_succ, List.getElem_cons_zero, Act.put, pS]
      have H32 : Hid (0 < 32) := Lib.hid (by decide)
      have hlb : Hid (k + 1 ≤ maxLen ∧ (k + 1) * 32 ≤ 140737488355328) := Lib.hid ⟨by have := HK.out; unfold maxLen; omega, by have := HK.out; omega⟩
      refine og_f rfl (by go_simp) fun K hK => ?_
      simp only [List.getElem_toArray, List.getElem_cons_succ, List.getElem_cons_zero]
      with_reducible refine wp_append_any (P := Tryd.prog) (.tmp 15) (.tmp 36) 65 ?_ y1.heap.size 41 i0 (dv fun _ => 0#8) 32 32 undRs HI.out zcells H32.out u4 k (flat k (lf4 M.reg)) ?_ HOW.out (some ⟨z2.heap.size, 0, none⟩) 1 1 (flat 1 fun _ => x) ?_ HSR.out (flat_one _ _) hlb.out.1 hlb.out.2 HBS.out ?_
      · exact rfl
      · exact rfl
      · exact rfl
      intro V7 w7 hown7 hgr7 hat7
      have hb7 : Below (z2.alloc (.cells (tab 32 fun j => bv (x j)) 41)).heap.size (z2.alloc (.cells (tab 32 fun j => bv (x j)) 41)) w7 ∨ True := .inr trivial
      have H8 : Hid (Pg y1 (lf4 M.reg) (k + 1) V7 w7) := by
        rw [← HX.out, flat_step] at hown7
        exact Lib.hid ⟨hown7, grown_below H3.out.2 HOW.out hgr7⟩
      have H9 : Hid (Dx w q1 q2 q (.slice (some ⟨q, 0, none⟩) 16 c) M w7) := Lib.hid (HD1.out.next H8.out.below)
      refine hK _ _ H9.out.us ?_
      clear hK K hown7 hgr7 hat7 hb7 H2 HSR HOW HBS H32 hlb HX H3
      try simp only [List.getElem_toArray, List.getElem_cons_succ, List.getElem_cons_zero, Act.put, pS]
      refine og_tk (some 4) (V7) rfl rfl (by go_simp) (fun _ _ => by simp [execOp, go_sem]) ?_
      simp only [Act.put, pS]
      refine og_done (NoPanic.normal ?_)
      clear hi1 hi2 hi3 HX4 HW4 HI4
      have hw1 := HJ.out.2.1
      go_wp2_with (fail)
      go_roundw
      case rel => exact ⟨k + 1, i + 4, by go_num, Lib.hid ⟨HJ.out.1, HK.out, H8.out⟩⟩
      case measure => exact (show 16 - (i + 4) < 16 - i from by have := HJ.out.2.2; omega)
    · have HK : Hid (k = 4) := Lib.hid (by have := HP.out.1; have := HP.out.2.1; omega)
      obtain rfl : i = 16 := by have := HP.out.1; have := HK.out; omega
      obtain rfl : k = 4 := HK.out
      clear hlt HK
      have HDW := Lib.hid (HD1.out.next HP.out.2.2.below)
      obtain ⟨a, c4, rfl, hsa, _, hcc, _⟩ := hs_of HP.out.2.2.row
      have HRR : Hid (Calls Tryd.prog 21 #[.int .i64 2, .slice a 4 c4] wr fun e w' => e = .returned (.tuple #[dv (rootOf 2 4 (lf4 M.reg)), .int .i64 0]) ∧ Below wr.heap.size wr w') := Lib.hid (by
        have h := rroot_ok 2 a 4 c4 (lf4 M.reg) wr hsa hcc (by decide) (by decide)
        rw [rootOf4] at h
        exact h)
      have HZI : Hid ((Tryd.prog.info? 41).map (·.size) = some zh.size ∧ zh.all (·.oneCell') = true ∧ zh.size = 32) := Lib.hid ⟨by rw [← HZ0.out]; exact infRr _, by rw [← HZ0.out]; exact one_bv _ _, by rw [← HZ0.out, tab_size]⟩
      clear HP hsa hcc HZ
      go_upto_region 8 with (first
        | (go_at_call 21; (with_reducible refine HRR.out.mono ?_); rintro e y4 ⟨he, hb⟩; obtain rfl : e = _ := he; have H4 := Lib.hid (HDW.out.next hb); clear hb HRR)
        | ((with_reducible refine wpList_store_row (P := Tryd.prog) (w := y4.alloc (.cells zh 41)) ?_ 41 (.tmp 6) (.tmp 41) ?_ y4.heap.size (tab 32 fun j => bv (rootOf 2 4 (lf4 M.reg) j)) ?_ ?_ 41 zh (heap_alloc_last y4 _) (infRr _) ?_ (one_bv _ _) ?_); (· exact rfl); (· exact rfl); (· exact rfl); (· exact rfl); (· rw [HZI.out.2.2, tab_size]); rw [World.setRow_alloc_new]; simp only [Act.put]))
      have H6 : Hid (Dx w q1 q2 q (.slice (some ⟨q, 0, none⟩) 16 c) M (y4.alloc (.cells (tab 32 fun j => bv (rootOf 2 4 (lf4 M.reg) j)) 41)).drew ∧ IsTab (y4.alloc (.cells (tab 32 fun j => bv (rootOf 2 4 (lf4 M.reg) j)) 41)).drew y4.heap.size 41 32 fun j => bv (rootOf 2 4 (lf4 M.reg) j)) := Lib.hid ⟨(H4.out.next (ba _ _)).next (Below.refl _ _).drew, (IsTab.new y4 _ 32 _).drew⟩
      have HQ6 : Hid (y4.heap.size ≠ q2) := Lib.hid (by have := IsTab.lt H4.out.res; omega)
      clear H4 HDW HZI
      generalize y4.alloc (.cells (tab 32 fun j => bv (rootOf 2 4 (lf4 M.reg) j)) 41) = y5 at *
      generalize y4.heap.size = q6 at *
      have k2 : y5.cell? ⟨q1, 2, none⟩ = some (.bool M.halted) := by
        have h : y5.drew.cell? ⟨q1, 2, none⟩ = some (.bool M.halted) := IsTab.cell H6.out.1.bx 2 (by decide)
        exact h
      cases hh : M.halted with
      | false =>
        rw [hh] at k2
        have HHH := Lib.hid hh
        clear hh
        go_upto_region 11 with (fail)
        clear k2
        refine wp_region_og (fun z : World => (IsTab z q6 41 32 fun j => bv (rootOf 2 4 (lf4 M.reg) j)) ∧ IsTab z q1 73 4 (v4 (.slice (some ⟨q, 0, none⟩) 16 c) (.int .u64 M.pc) (.bool M.halted) (.int .u64 M.exit))) (.take 0 (.take 1 (.take 2 (.take 3 (.take 4 (.take 5 (.one 6 (.one 7 (.one 8 .done))))))))) (by kernel_rfl) (by kernel_rfl) (⟨H6.out.2, H6.out.1.bx⟩) ?_
        generalize y5.drew = z1 at *
        refine og_ld (some 45) 41 (.tmp 6) (.pointer (some ⟨q6, 0, none⟩)) (dv (rootOf 2 4 (lf4 M.reg))) rfl rfl (by go_simp) rfl rfl (fun y hy => load32r hy.1) ?_
        simp only [Act.put, pS]
        refine og_tk (some 46) (.pointer (some ⟨q1, 1, none⟩)) rfl rfl (by go_simp) (fun _ _ => by simp [execOp, go_sem]) ?_
        simp only [Act.put, pS]
        refine og_ld (some 47) 33 (.tmp 46) (.pointer (some ⟨q1, 1, none⟩)) (.int .u64 M.pc) rfl rfl (by go_simp) rfl rfl (fun y hy => by have h := (show y.cell? ⟨q1, 1, none⟩ = some (.int .u64 M.pc) from IsTab.cell hy.2 1 (by decide)); simp [Instr.loadAt, go_sem, h, Tryd.underlying33]) ?_
        simp only [Act.put, pS]
        refine og_tk (some 48) (.int .u64 0) rfl rfl (by go_simp) (fun _ _ => by simp [execOp, go_sem]) ?_
        simp only [Act.put, pS]
        refine og_tk (some 49) (.pointer (some ⟨q1, 3, none⟩)) rfl rfl (by go_simp) (fun _ _ => by simp [execOp, go_sem]) ?_
        simp only [Act.put, pS]
        refine og_ld (some 50) 33 (.tmp 49) (.pointer (some ⟨q1, 3, none⟩)) (.int .u64 M.exit) rfl rfl (by go_simp) rfl rfl (fun y hy => by have h := (show y.cell? ⟨q1, 3, none⟩ = some (.int .u64 M.exit) from IsTab.cell hy.2 3 (by decide)); simp [Instr.loadAt, go_sem, h, Tryd.underlying33]) ?_
        simp only [Act.put, pS]
        have hfr := four_walk z1 M.pc 0 M.exit 0 HOK.out.1.2.1 (by decide) HOK.out.1.2.2 (by decide)
        try rw [show ((1 : Nat) : Int) = 1 from rfl] at hfr
        try rw [show ((0 : Nat) : Int) = 0 from rfl] at hfr
        have HFR := Lib.hid hfr
        clear hfr
        refine og_f rfl (by go_simp) fun K hK => ?_
        go_simp
        refine HFR.out.mono ?_
        rintro e z2 ⟨he, hb⟩
        obtain rfl : e = _ := he
        have H2 : Hid (Dx w q1 q2 q (.slice (some ⟨q, 0, none⟩) 16 c) M z2 ∧ IsTab z2 q6 41 32 fun j => bv (rootOf 2 4 (lf4 M.reg) j)) := Lib.hid ⟨H6.out.1.next hb, H6.out.2.below hb⟩
        refine hK _ _ ⟨H2.out.2, H2.out.1.bx⟩ ?_
        clear hK K hb HFR H6
        try simp only [List.getElem_toArray, List.getElem_cons_succ, List.getElem_cons_zero, Act.put, pS]
        have HPR := Lib.hid (rpair_dv (rootOf 2 4 (lf4 M.reg)) (fX (sel M.pc 0 M.exit 0)) z2)
        refine og_f rfl (by go_simp) fun K hK => ?_
        go_simp
        refine HPR.out.mono ?_
        rintro e z3 ⟨he, hb⟩
        obtain rfl : e = _ := he
        have H3 : Hid (Dx w q1 q2 q (.slice (some ⟨q, 0, none⟩) 16 c) M z3 ∧ IsTab z3 q6 41 32 fun j => bv (rootOf 2 4 (lf4 M.reg) j)) := Lib.hid ⟨H2.out.1.next hb, H2.out.2.below hb⟩
        refine hK _ _ ⟨H3.out.2, H3.out.1.bx⟩ ?_
        clear hK K hb HPR H2
        try simp only [List.getElem_toArray, List.getElem_cons_succ, List.getElem_cons_zero, Act.put, pS]
        obtain ⟨D, hD⟩ : ∃ D, pr (rootOf 2 4 (lf4 M.reg)) (fX (sel M.pc 0 M.exit 0)) = D := ⟨_, rfl⟩
        have HDD := Lib.hid hD
        rw [hD]
        clear hD
        refine og_f rfl (by go_simp) fun K hK => ?_
        simp only [List.getElem_toArray, List.getElem_cons_succ, List.getElem_cons_zero]
        have hres : z3.heap[q2]? = some (.cells (tab 32 fun _ => bv 0#8) 41 (0, 0)) := H3.out.1.res
        with_reducible refine wp_store_row 41 (.tmp 2) (.tmp 52) ?_ q2 (tab 32 fun i => bv (D i)) ?_ ?_ 41 (tab 32 fun _ => bv 0#8) hres (infRr _) ?_ (one_bv _ _) ?_
        · exact rfl
        · exact rfl
        · exact rfl
        · rw [tab_size, tab_size]
        have H4 : Hid (IsTab (z3.setRow q2 (tab 32 fun i => bv (D i))) q2 41 32 (fun i => bv (D i)) ∧ Below w.heap.size w (z3.setRow q2 (tab 32 fun i => bv (D i)))) := Lib.hid ⟨H3.out.1.res.row, below_setRow H3.out.1.below H3.out.1.ne.2 _⟩
        refine hK _ _ ⟨IsTab.rowOther H3.out.2 HQ6.out, IsTab.rowOther H3.out.1.bx H3.out.1.ne.1⟩ ?_
        clear hK K H3
        try simp only [List.getElem_toArray, List.getElem_cons_succ, List.getElem_cons_zero, Act.put, pS]
        refine og_done (NoPanic.normal ?_)
        generalize z3.setRow q2 (tab 32 fun i => bv (D i)) = z4 at *
        go_wp2_with (fail)
        exact bodyPost_ret (results_cell_row rfl _ _ q2 41 _ (0, 0) _ rfl H4.out.1 undRr rfl (infRr _)) rfl ⟨by rw [← HDD.out]; unfold hdX; rw [HHH.out]; rfl, H4.out.2⟩
      | true =>
        rw [hh] at k2
        have HHH := Lib.hid hh
        clear hh
        go_upto_region 11 with (fail)
        clear k2
        refine wp_region_og (fun z : World => (IsTab z q6 41 32 fun j => bv (rootOf 2 4 (lf4 M.reg) j)) ∧ IsTab z q1 73 4 (v4 (.slice (some ⟨q, 0, none⟩) 16 c) (.int .u64 M.pc) (.bool M.halted) (.int .u64 M.exit))) (.take 0 (.take 1 (.take 2 (.take 3 (.take 4 (.take 5 (.one 6 (.one 7 (.one 8 .done))))))))) (by kernel_rfl) (by kernel_rfl) (⟨H6.out.2, H6.out.1.bx⟩) ?_
        generalize y5.drew = z1 at *
        refine og_ld (some 45) 41 (.tmp 6) (.pointer (some ⟨q6, 0, none⟩)) (dv (rootOf 2 4 (lf4 M.reg))) rfl rfl (by go_simp) rfl rfl (fun y hy => load32r hy.1) ?_
        simp only [Act.put, pS]
        refine og_tk (some 46) (.pointer (some ⟨q1, 1, none⟩)) rfl rfl (by go_simp) (fun _ _ => by simp [execOp, go_sem]) ?_
        simp only [Act.put, pS]
        refine og_ld (some 47) 33 (.tmp 46) (.pointer (some ⟨q1, 1, none⟩)) (.int .u64 M.pc) rfl rfl (by go_simp) rfl rfl (fun y hy => by have h := (show y.cell? ⟨q1, 1, none⟩ = some (.int .u64 M.pc) from IsTab.cell hy.2 1 (by decide)); simp [Instr.loadAt, go_sem, h, Tryd.underlying33]) ?_
        simp only [Act.put, pS]
        refine og_tk (some 48) (.int .u64 1) rfl rfl (by go_simp) (fun _ _ => by simp [execOp, go_sem]) ?_
        simp only [Act.put, pS]
        refine og_tk (some 49) (.pointer (some ⟨q1, 3, none⟩)) rfl rfl (by go_simp) (fun _ _ => by simp [execOp, go_sem]) ?_
        simp only [Act.put, pS]
        refine og_ld (some 50) 33 (.tmp 49) (.pointer (some ⟨q1, 3, none⟩)) (.int .u64 M.exit) rfl rfl (by go_simp) rfl rfl (fun y hy => by have h := (show y.cell? ⟨q1, 3, none⟩ = some (.int .u64 M.exit) from IsTab.cell hy.2 3 (by decide)); simp [Instr.loadAt, go_sem, h, Tryd.underlying33]) ?_
        simp only [Act.put, pS]
        have hfr := four_walk z1 M.pc 1 M.exit 0 HOK.out.1.2.1 (by decide) HOK.out.1.2.2 (by decide)
        try rw [show ((1 : Nat) : Int) = 1 from rfl] at hfr
        try rw [show ((0 : Nat) : Int) = 0 from rfl] at hfr
        have HFR := Lib.hid hfr
        clear hfr
        refine og_f rfl (by go_simp) fun K hK => ?_
        go_simp
        refine HFR.out.mono ?_
        rintro e z2 ⟨he, hb⟩
        obtain rfl : e = _ := he
        have H2 : Hid (Dx w q1 q2 q (.slice (some ⟨q, 0, none⟩) 16 c) M z2 ∧ IsTab z2 q6 41 32 fun j => bv (rootOf 2 4 (lf4 M.reg) j)) := Lib.hid ⟨H6.out.1.next hb, H6.out.2.below hb⟩
        refine hK _ _ ⟨H2.out.2, H2.out.1.bx⟩ ?_
        clear hK K hb HFR H6
        try simp only [List.getElem_toArray, List.getElem_cons_succ, List.getElem_cons_zero, Act.put, pS]
        have HPR := Lib.hid (rpair_dv (rootOf 2 4 (lf4 M.reg)) (fX (sel M.pc 1 M.exit 0)) z2)
        refine og_f rfl (by go_simp) fun K hK => ?_
        go_simp
        refine HPR.out.mono ?_
        rintro e z3 ⟨he, hb⟩
        obtain rfl : e = _ := he
        have H3 : Hid (Dx w q1 q2 q (.slice (some ⟨q, 0, none⟩) 16 c) M z3 ∧ IsTab z3 q6 41 32 fun j => bv (rootOf 2 4 (lf4 M.reg) j)) := Lib.hid ⟨H2.out.1.next hb, H2.out.2.below hb⟩
        refine hK _ _ ⟨H3.out.2, H3.out.1.bx⟩ ?_
        clear hK K hb HPR H2
        try simp only [List.getElem_toArray, List.getElem_cons_succ, List.getElem_cons_zero, Act.put, pS]
        obtain ⟨D, hD⟩ : ∃ D, pr (rootOf 2 4 (lf4 M.reg)) (fX (sel M.pc 1 M.exit 0)) = D := ⟨_, rfl⟩
        have HDD := Lib.hid hD
        rw [hD]
        clear hD
        refine og_f rfl (by go_simp) fun K hK => ?_
        simp only [List.getElem_toArray, List.getElem_cons_succ, List.getElem_cons_zero]
        have hres : z3.heap[q2]? = some (.cells (tab 32 fun _ => bv 0#8) 41 (0, 0)) := H3.out.1.res
        with_reducible refine wp_store_row 41 (.tmp 2) (.tmp 52) ?_ q2 (tab 32 fun i => bv (D i)) ?_ ?_ 41 (tab 32 fun _ => bv 0#8) hres (infRr _) ?_ (one_bv _ _) ?_
        · exact rfl
        · exact rfl
        · exact rfl
        · rw [tab_size, tab_size]
        have H4 : Hid (IsTab (z3.setRow q2 (tab 32 fun i => bv (D i))) q2 41 32 (fun i => bv (D i)) ∧ Below w.heap.size w (z3.setRow q2 (tab 32 fun i => bv (D i)))) := Lib.hid ⟨H3.out.1.res.row, below_setRow H3.out.1.below H3.out.1.ne.2 _⟩
        refine hK _ _ ⟨IsTab.rowOther H3.out.2 HQ6.out, IsTab.rowOther H3.out.1.bx H3.out.1.ne.1⟩ ?_
        clear hK K H3
        try simp only [List.getElem_toArray, List.getElem_cons_succ, List.getElem_cons_zero, Act.put, pS]
        refine og_done (NoPanic.normal ?_)
        generalize z3.setRow q2 (tab 32 fun i => bv (D i)) = z4 at *
        go_wp2_with (fail)
        exact bodyPost_ret (results_cell_row rfl _ _ q2 41 _ (0, 0) _ rfl H4.out.1 undRr rfl (infRr _)) rfl ⟨by rw [← HDD.out]; unfold hdX; rw [HHH.out]; rfl, H4.out.2⟩
end Co
end Go.Proofs.YtjfpbponjhpdhaaDoor
namespace Go.Proofs.YtjfpbponjhpdhaaDoor
open Go.RowKit
set_option linter.unusedVariables false
set_option linter.unusedSimpArgs false
namespace Co
open Kc Mk Vm
/-- The document's root of a memory's leaves. -/
theorem rroot_mem (w : World) (a : Option Addr) (n c : Nat) (M : Mac) (hs : IsHs w a n (mlf M)) (hnc : n ≤ c) (hn : n ≤ 8192) (he : ext n (mlf M) = mg M) :
    Calls Tryd.prog 21 #[.int .i64 13, .slice a n c] w fun e w' => e = .returned (.tuple #[dv (mroot M), .int .i64 0]) ∧ Below w.heap.size w w' := by
  have e13 : (2 : Nat) ^ 13 = 8192 := by decide
  have h := rroot_ok 13 a n c (mlf M) w hs hnc (by decide) (by omega)
  rw [he] at h
  exact h
theorem ldSl {w : World} {r qm qr : Nat} {M : Mac} (h : IsRm w r qm qr M) : (Instr.loadAt 23 (.pointer (some ⟨r, 0, none⟩))).run Tryd.prog w = .ok (.slice (some ⟨qm, 0, none⟩) 8192 8192) w := by
  have h := h.box.k0
  simp [Instr.loadAt, go_sem, h, Tryd.underlying23]
set_option maxHeartbeats 8000000 in
set_option maxRecDepth 100000 in
theorem rof_ok (w : World) (r qm qr : Nat) (M : Mac) (hm : IsRm w r qm qr M) (hmem : ∀ i, M.mem i < 18446744073709551616) (hok : OkW M) (ht : Laid.KTab w) :
    Calls Tryd.prog 23 #[.pointer (some ⟨r, 0, none⟩)] w fun e w' => e = .returned (dv (ofX M)) ∧ Below w.heap.size w w' := by
  have HOK := Lib.hid (And.intro hmem (And.intro hok ht))
  have HM := Lib.hid hm
  clear hmem hok ht hm
  have z2 := zero26
  generalize hz : (tab 32 fun _ => bv 0#8) = zh at *
  have HZ := Lib.hid hz
  clear hz
  have HZI : Hid ((Tryd.prog.info? 41).map (·.size) = some zh.size ∧ zh.all (·.oneCell') = true ∧ zh.size = 32) := Lib.hid ⟨by rw [← HZ.out]; exact infRr _, by rw [← HZ.out]; exact one_bv _ _, by rw [← HZ.out, tab_size]⟩
  go_enter Tryd.func23, Tryd.ntmps23
  go_upto_region 1 with (fail)
  have H0 : Hid (IsRm (w.alloc (.cells zh 41)) r qm qr M ∧ IsTab (w.alloc (.cells zh 41)) w.heap.size 41 32 (fun _ => bv 0#8) ∧ Below w.heap.size w (w.alloc (.cells zh 41))) := Lib.hid ⟨HM.out.below (ba _ _), put_newR w zh HZ.out, ba _ _⟩
  have HNE : Hid (w.heap.size ≤ w.heap.size ∧ r ≠ w.heap.size ∧ qm ≠ w.heap.size ∧ qr ≠ w.heap.size) := Lib.hid ⟨Nat.le_refl _, by have := HM.out.box.lt; omega, by have := HM.out.mem.lt; omega, by have := HM.out.reg.lt; omega⟩
  clear HM
  generalize w.alloc (.cells zh 41) = y0 at *
  obtain ⟨q2, hq⟩ : ∃ q2, w.heap.size = q2 := ⟨_, rfl⟩
  have HNE1 : Hid (w.heap.size ≤ q2 ∧ r ≠ q2 ∧ qm ≠ q2 ∧ qr ≠ q2) := Lib.hid (by rw [← hq]; exact HNE.out)
  have H1 : Hid (IsRm y0 r qm qr M ∧ IsTab y0 q2 41 32 (fun _ => bv 0#8) ∧ Below w.heap.size w y0) := Lib.hid ⟨H0.out.1, by rw [← hq]; exact H0.out.2.1, H0.out.2.2⟩
  rw [hq]
  clear H0 HNE hq
  have HLR := Lib.hid (ldSl H1.out.1)
  have HLV := Lib.hid (rleaves_walk y0 qm M H1.out.1.mem HOK.out.1)
  go_upto_region 2 with (first
    | ((with_reducible refine wpList_loadE (P := Tryd.prog) (w := y0) (ty := 23) (x := .tmp 8) (p := .pointer (some ⟨r, 0, none⟩)) (v := .slice (some ⟨qm, 0, none⟩) 8192 8192) ?_ ?_ ?_ HLR.out ?_); (· exact rfl); (· exact rfl); (· exact rfl))
    | (go_at_call 22; (with_reducible refine HLV.out.mono ?_); rintro e y1 ⟨al, n, cl, he, hs, hnc, hn, hext, hb⟩; obtain rfl : e = _ := he; have H2 : Hid (IsRm y1 r qm qr M ∧ IsTab y1 q2 41 32 (fun _ => bv 0#8) ∧ Below w.heap.size w y1) := Lib.hid ⟨H1.out.1.below hb, H1.out.2.1.below hb, bl H1.out.2.2 hb⟩; have HRR := Lib.hid (rroot_mem y1 al n cl M hs hnc hn hext); clear hb hs hnc hn hext HLV HLR)
    | (go_at_call 21; (with_reducible refine HRR.out.mono ?_); rintro e y2 ⟨he, hb⟩; obtain rfl : e = _ := he; have HB2 := Lib.hid hb; clear hb HRR)
    | ((with_reducible refine wpList_store_row (P := Tryd.prog) (w := y2.alloc (.cells zh 41)) ?_ 41 (.tmp 3) (.tmp 12) ?_ y2.heap.size (tab 32 fun i => bv (mroot M i)) ?_ ?_ 41 zh (heap_alloc_last y2 _) (infRr _) ?_ (one_bv _ _) ?_); (· exact rfl); (· exact rfl); (· exact rfl); (· exact rfl); (· rw [HZI.out.2.2, tab_size]); rw [World.setRow_alloc_new]; simp only [Act.put]))
  have H3 : Hid (IsRm (y2.alloc (.cells (tab 32 fun i => bv (mroot M i)) 41)) r qm qr M ∧ IsTab (y2.alloc (.cells (tab 32 fun i => bv (mroot M i)) 41)) y2.heap.size 41 32 (fun i => bv (mroot M i)) ∧ IsTab (y2.alloc (.cells (tab 32 fun i => bv (mroot M i)) 41)) q2 41 32 (fun _ => bv 0#8) ∧ Below w.heap.size w (y2.alloc (.cells (tab 32 fun i => bv (mroot M i)) 41))) := Lib.hid ⟨(H2.out.1.below HB2.out).below (ba _ _), IsTab.new y2 _ 32 _, (H2.out.2.1.below HB2.out).below (ba _ _), bl (bl H2.out.2.2 HB2.out) (ba _ _)⟩
  have HNE : Hid (w.heap.size ≤ q2 ∧ y2.heap.size ≠ q2 ∧ r ≠ q2 ∧ qm ≠ q2 ∧ qr ≠ q2) := Lib.hid ⟨HNE1.out.1, by have := IsTab.lt H2.out.2.1; have := HB2.out.size; omega, HNE1.out.2⟩
  clear H1 H2 HB2 HNE1
  generalize y2.alloc (.cells (tab 32 fun i => bv (mroot M i)) 41) = y3 at *
  generalize y2.heap.size = q3 at *
  have HZ1 : Hid (IsRm y3.drew r qm qr M ∧ (IsTab y3.drew q3 41 32 fun i => bv (mroot M i)) ∧ IsTab y3.drew q2 41 32 (fun _ => bv 0#8) ∧ Below w.heap.size w y3.drew) := Lib.hid ⟨H3.out.1.below (Below.refl _ _).drew, H3.out.2.1.drew, H3.out.2.2.1.drew, H3.out.2.2.2.drew⟩
  refine wp_region_og (fun z : World => (IsTab z q3 41 32 fun i => bv (mroot M i)) ∧ IsRm z r qm qr M) (.take 0 (.take 1 (.one 2 (.one 3 (.one 4 (.one 5 .done)))))) (by kernel_rfl) (by kernel_rfl) (⟨HZ1.out.2.1, HZ1.out.1⟩) ?_
  generalize y3.drew = z1 at *
  refine og_ld (some 14) 41 (.tmp 3) (.pointer (some ⟨q3, 0, none⟩)) (dv (mroot M)) rfl rfl (by go_simp) rfl rfl (fun y hy => load32r hy.1) ?_
  simp only [Act.put, pS]
  refine og_tk (some 15) (.pointer (some ⟨r, 0, none⟩)) rfl rfl (by go_simp) (fun _ _ => by simp [execOp, go_sem]) ?_
  simp only [Act.put, pS]
  have HC := Lib.hid (rHeadOf_ok z1 r qm qr M HZ1.out.1)
  refine og_f rfl (by go_simp) fun K hK => ?_
  go_simp
  refine HC.out.mono ?_
  rintro e z2 ⟨q, c, he, hc, hus, hb⟩
  obtain rfl : e = _ := he
  have H4 : Hid ((IsRm z2 r qm qr M ∧ (IsTab z2 q3 41 32 fun i => bv (mroot M i)) ∧ IsTab z2 q2 41 32 (fun _ => bv 0#8) ∧ Below w.heap.size w z2) ∧ IsUs z2 (some ⟨q, 0, none⟩) 16 M.reg ∧ 16 ≤ c) := Lib.hid ⟨⟨HZ1.out.1.below hb, HZ1.out.2.1.below hb, HZ1.out.2.2.1.below hb, bl HZ1.out.2.2.2 hb⟩, hus, hc⟩
  clear hus hc
  refine hK _ _ ⟨H4.out.1.2.1, H4.out.1.1⟩ ?_
  clear hK K hb HC
  try simp only [List.getElem_toArray, List.getElem_cons_succ, List.getElem_cons_zero, Act.put, pS]
  have HC := Lib.hid (rdigest_ok z2 q c M H4.out.2.1 H4.out.2.2 HOK.out.2.1 (ktab_below HOK.out.2.2 H4.out.1.2.2.2))
  refine og_f rfl (by go_simp) fun K hK => ?_
  go_simp
  refine HC.out.mono ?_
  rintro e z3 ⟨he, hb⟩
  obtain rfl : e = _ := he
  have H5 : Hid (IsRm z3 r qm qr M ∧ (IsTab z3 q3 41 32 fun i => bv (mroot M i)) ∧ IsTab z3 q2 41 32 (fun _ => bv 0#8) ∧ Below w.heap.size w z3) := Lib.hid ⟨H4.out.1.1.below hb, H4.out.1.2.1.below hb, H4.out.1.2.2.1.below hb, bl H4.out.1.2.2.2 hb⟩
  refine hK _ _ ⟨H5.out.2.1, H5.out.1⟩ ?_
  clear hK K hb HC
  try simp only [List.getElem_toArray, List.getElem_cons_succ, List.getElem_cons_zero, Act.put, pS]
  have HC := Lib.hid (rpair_dv (mroot M) (hdX M) z3)
  refine og_f rfl (by go_simp) fun K hK => ?_
  go_simp
  refine HC.out.mono ?_
  rintro e z4 ⟨he, hb⟩
  obtain rfl : e = _ := he
  have H6 : Hid (IsRm z4 r qm qr M ∧ (IsTab z4 q3 41 32 fun i => bv (mroot M i)) ∧ IsTab z4 q2 41 32 (fun _ => bv 0#8) ∧ Below w.heap.size w z4) := Lib.hid ⟨H5.out.1.below hb, H5.out.2.1.below hb, H5.out.2.2.1.below hb, bl H5.out.2.2.2 hb⟩
  refine hK _ _ ⟨H6.out.2.1, H6.out.1⟩ ?_
  clear hK K hb HC
  try simp only [List.getElem_toArray, List.getElem_cons_succ, List.getElem_cons_zero, Act.put, pS]
  obtain ⟨D, hD⟩ : ∃ D, pr (mroot M) (hdX M) = D := ⟨_, rfl⟩
  have HDD := Lib.hid hD
  rw [hD]
  clear hD
  refine og_f rfl (by go_simp) fun K hK => ?_
  simp only [List.getElem_toArray, List.getElem_cons_succ, List.getElem_cons_zero]
  have hres : z4.heap[q2]? = some (.cells (tab 32 fun _ => bv 0#8) 41 (0, 0)) := H6.out.2.2.1
  with_reducible refine wp_store_row 41 (.tmp 2) (.tmp 18) ?_ q2 (tab 32 fun i => bv (D i)) ?_ ?_ 41 (tab 32 fun _ => bv 0#8) hres (infRr _) ?_ (one_bv _ _) ?_
  · exact rfl
  · exact rfl
  · exact rfl
  · rw [tab_size, tab_size]
  have H7 : Hid (IsTab (z4.setRow q2 (tab 32 fun i => bv (D i))) q2 41 32 (fun i => bv (D i)) ∧ Below w.heap.size w (z4.setRow q2 (tab 32 fun i => bv (D i)))) := Lib.hid ⟨IsTab.row H6.out.2.2.1, below_setRow H6.out.2.2.2 HNE.out.1 _⟩
  refine hK _ _ ⟨IsTab.rowOther H6.out.2.1 HNE.out.2.1, IsTab.rowOther H6.out.1.box HNE.out.2.2.1, IsTab.rowOther H6.out.1.mem HNE.out.2.2.2.1, IsTab.rowOther H6.out.1.reg HNE.out.2.2.2.2, H6.out.1.ne⟩ ?_
  clear hK K H6
  try simp only [List.getElem_toArray, List.getElem_cons_succ, List.getElem_cons_zero, Act.put, pS]
  refine og_done (NoPanic.normal ?_)
  generalize z4.setRow q2 (tab 32 fun i => bv (D i)) = z5 at *
  go_wp2_with (fail)
  exact bodyPost_ret (results_cell_row rfl _ _ q2 41 _ (0, 0) _ rfl H7.out.1 undRr rfl (infRr _)) rfl ⟨by rw [← HDD.out]; rfl, H7.out.2⟩
end Co
end Go.Proofs.YtjfpbponjhpdhaaDoor
namespace Go.Proofs.YtjfpbponjhpdhaaDoor
open Go.RowKit Go.ChangeShapes
set_option linter.unusedVariables false
set_option linter.unusedSimpArgs false
namespace Co
open Kc Mk Vm
theorem layR_mem (g : Nat → Nat) (M : Mac) : ∀ n, (layR g n M).mem = M.mem
  | 0 => rfl
  | n + 1 => layR_mem g M n
theorem layC_reg (f : Nat → Nat × Nat) (M : Mac) : ∀ n, (layC f n M).reg = M.reg
  | 0 => rfl
  | n + 1 => layC_reg f M n
theorem layR_lt (g : Nat → Nat) (hg : ∀ i, g i < 18446744073709551616) (M : Mac) (hM : ∀ i, M.reg i < 18446744073709551616) : ∀ n i, (layR g n M).reg i < 18446744073709551616
  | 0, i => hM i
  | n + 1, i => by
    show (if i = n then g n else (layR g n M).reg i) < _
    split
    · exact hg n
    · exact layR_lt g hg M hM n i
theorem eqlRg (f : Nat → Nat) (u : World) : (binOp .eql 35 (.agg (tab 16 (uv f))) (.agg (tab 16 (uv f)))).run Tryd.prog u = .ok (.bool true) u := by
  have hs : ∀ w, (sizeOf 33).run Tryd.prog w = .ok 1 w := fun w => by kernel_rfl
  have h := run_eql_tab (P := Tryd.prog) u 35 33 16 .u64 (by kernel_rfl) (by kernel_rfl) hs (fun i => (f i : Int)) (fun i => (f i : Int))
  rw [show ((List.range 16).all fun i => (f i : Int) == (f i : Int)) = true from by simp] at h
  exact h
theorem grdRg (x y : Operand) (f : Nat → Nat) (u : World) : (eqGuard .eql 35 x y (.agg (tab 16 (uv f))) (.agg (tab 16 (uv f)))).run Tryd.prog u = .ok () u := by kernel_rfl
theorem exec_eqRg {o : Oper} {ev : Operand → Value} {u : World} (x y : Operand) (yt : TypeId) (f : Nat → Nat) (ho : o.op = .binOp .eql 35 x y yt) (hx : ev x = .agg (tab 16 (uv f))) (hy : ev y = .agg (tab 16 (uv f))) : (execOp ev o).run Tryd.prog u = .ok (.value (.bool true)) u := by
  unfold execOp
  simp only [ho, hx, hy, Sem.run_bind, Sem.run_pure, Result.andThen_ok, grdRg, eqlRg]
set_option maxHeartbeats 16000000 in
set_option maxRecDepth 100000 in
theorem roots_in (w : World) (a0 : Option Addr) (len0 cap0 : Nat) (a1 : Option Addr) (n1 c1 : Nat) (pc exit : Nat) (halted : Bool) (f : Nat → Nat × Nat) (g : Nat → Nat) (hl : len0 ≤ maxLen) (hf : IsCl w a0 len0 f) (hfb : ∀ j, (f j).1 < 18446744073709551616 ∧ (f j).2 < 18446744073709551616) (h1 : n1 ≤ maxLen) (hg : IsUs w a1 n1 g) (hgb : ∀ i, g i < 18446744073709551616) (hpc : pc < 18446744073709551616) (hex : exit < 18446744073709551616) (ht : Laid.KTab w) :
    Calls Tryd.prog 4 #[.slice a0 len0 cap0, .slice a1 n1 c1, .int .u64 pc, .int .u64 exit, .bool halted] w fun e w' => e = .returned (.bool true) ∧ Below w.heap.size w w' := by
  have HT := Lib.hid ht
  have hl1 := laid_walk w a0 a1 len0 cap0 n1 c1 pc exit halted f g hf hg hl h1 (min len0 100) (min 16 n1) rfl rfl
  obtain ⟨M, hM⟩ : ∃ M, endM (layR g (min 16 n1) (layC f (min len0 100) (loaded 0 fun _ => 0))) pc exit halted = M := ⟨_, rfl⟩
  have hmem : ∀ i, M.mem i < 18446744073709551616 := fun i => by
    rw [← hM]
    show (layR g (min 16 n1) (layC f (min len0 100) (loaded 0 fun _ => 0))).mem i < _
    rw [layR_mem]
    exact layC_lt f hfb _ i
  have hreg : ∀ i, M.reg i < 18446744073709551616 := fun i => by
    rw [← hM]
    show (layR g (min 16 n1) (layC f (min len0 100) (loaded 0 fun _ => 0))).reg i < _
    refine layR_lt g hgb _ (fun i => ?_) _ i
    rw [layC_reg]
    show (0 : Nat) < _
    decide
  have e1 : pc = M.pc := by rw [← hM]; rfl
  have e2 : exit = M.exit := by rw [← hM]; rfl
  have e3 : halted = M.halted := by rw [← hM]; rfl
  rw [hM] at hl1
  clear hM
  subst e1 e2 e3
  have HOK : Hid ((∀ i, M.mem i < 18446744073709551616) ∧ OkW M) := Lib.hid ⟨hmem, hreg, hpc, hex⟩
  have HL := Lib.hid hl1
  clear hl1 hmem hreg hpc hex hf hfb hg hgb hl h1 ht
  have z2 := zeroHash
  have HBH := Lib.hid (fun u : World => buildH0 u)
  generalize hz : (tab 32 fun _ => bv 0#8) = zh at *
  have HZ := Lib.hid hz
  clear hz
  have HZI : Hid ((Tryd.prog.info? 42).map (·.size) = some zh.size ∧ zh.all (·.oneCell') = true ∧ zh.size = 32) := Lib.hid ⟨by rw [← HZ.out]; exact infH _, by rw [← HZ.out]; exact one_bv _ _, by rw [← HZ.out, tab_size]⟩
  have HZR := Lib.hid zero26
  go_enter Tryd.func4, Tryd.ntmps4
  go_upto_region 2 with (go_at_call 20; (with_reducible refine HL.out.mono ?_); rintro e y1 ⟨b, r, qm, qr, he, hla⟩; obtain rfl : e = _ := he; have H1 : Hid (La w b r qm qr M y1) := Lib.hid hla; clear hla HL)
  have HFX := Lib.hid (fixed11_walk y1 (ktab_below HT.out H1.out.below))
  go_upto_region 4 with (go_at_call 10; (with_reducible refine HFX.out.mono ?_); rintro e y2 ⟨he, hb⟩; obtain rfl : e = _ := he; have H2 := Lib.hid (H1.out.next hb); clear hb HFX)
  clear H1
  have HOF := Lib.hid (of_ok y2 b M H2.out.mac HOK.out.1 HOK.out.2 (ktab_below HT.out H2.out.below))
  go_upto_region 5 with (first
    | (go_at_call 16; (with_reducible refine HOF.out.mono ?_); rintro e y3 ⟨he, hb⟩; obtain rfl : e = _ := he; have H3 := Lib.hid (H2.out.next hb); clear hb HOF)
    | ((with_reducible refine wpList_store_row (P := Tryd.prog) (w := y3.alloc (.cells zh 42)) ?_ 42 (.tmp 13) (.tmp 39) ?_ y3.heap.size (tab 32 fun i => bv (ofX M i)) ?_ ?_ 42 zh (heap_alloc_last y3 _) (infH _) ?_ (one_bv _ _) ?_); (· exact rfl); (· exact rfl); (· exact rfl); (· exact rfl); (· rw [HZI.out.2.2, tab_size]); rw [World.setRow_alloc_new]; simp only [Act.put]))
  have H4 : Hid (La w b r qm qr M (y3.alloc (.cells (tab 32 fun i => bv (ofX M i)) 42)) ∧ (IsTab (y3.alloc (.cells (tab 32 fun i => bv (ofX M i)) 42)) y3.heap.size 42 32 fun i => bv (ofX M i))) := Lib.hid ⟨H3.out.next (ba _ _), IsTab.new y3 _ 32 _⟩
  clear H2 H3
  generalize (y3.alloc (.cells (tab 32 fun i => bv (ofX M i)) 42)) = y4 at *
  generalize y3.heap.size = q13 at *
  have HRO := Lib.hid (Root_walk y4 b M H4.out.1.mac HOK.out.1 (ktab_below HT.out H4.out.1.below))
  go_upto_region 6 with (first
    | (go_at_call 12; (with_reducible refine HRO.out.mono ?_); rintro e y5 ⟨he, hb⟩; obtain rfl : e = _ := he; have HB5 := Lib.hid hb; clear hb HRO)
    | ((with_reducible refine wpList_store_row (P := Tryd.prog) (w := y5.alloc (.cells zh 42)) ?_ 42 (.tmp 15) (.tmp 44) ?_ y5.heap.size (tab 32 fun i => bv (mroot M i)) ?_ ?_ 42 zh (heap_alloc_last y5 _) (infH _) ?_ (one_bv _ _) ?_); (· exact rfl); (· exact rfl); (· exact rfl); (· exact rfl); (· rw [HZI.out.2.2, tab_size]); rw [World.setRow_alloc_new]; simp only [Act.put]))
  have H6 : Hid (La w b r qm qr M (y5.alloc (.cells (tab 32 fun i => bv (mroot M i)) 42)) ∧ (IsTab (y5.alloc (.cells (tab 32 fun i => bv (mroot M i)) 42)) q13 42 32 fun i => bv (ofX M i)) ∧ (IsTab (y5.alloc (.cells (tab 32 fun i => bv (mroot M i)) 42)) y5.heap.size 42 32 fun i => bv (mroot M i))) := Lib.hid ⟨(H4.out.1.next HB5.out).next (ba _ _), (H4.out.2.below HB5.out).below (ba _ _), IsTab.new y5 _ 32 _⟩
  clear H4 HB5
  generalize (y5.alloc (.cells (tab 32 fun i => bv (mroot M i)) 42)) = y6 at *
  generalize y5.heap.size = q15 at *
  have zHd := zeroHd
  have hzs : (tab 19 (hv m0)).size = 19 := tab_size _ _
  have hin := infHd m0
  have hon := oneHd m0
  generalize hz : (tab 19 (hv m0)) = zd at *
  have HZS := Lib.hid (And.intro hzs (And.intro hin hon))
  clear hzs hz hin hon
  have HHO := Lib.hid (HeadOf_ok y6 b M H6.out.1.mac)
  go_upto_region 7 with (first
    | (go_at_call 15; (with_reducible refine HHO.out.mono ?_); rintro e y7 ⟨he, hb⟩; obtain rfl : e = _ := he; have HB7 := Lib.hid hb; clear hb HHO)
    | ((with_reducible refine wpList_store_row (P := Tryd.prog) (w := y7.alloc (.cells zd 48)) ?_ 48 (.tmp 17) (.tmp 49) ?_ y7.heap.size (tab 19 (hv M)) ?_ ?_ 48 zd (heap_alloc_last y7 _) (infHd M) ?_ (oneHd M) ?_); (· exact rfl); (· exact rfl); (· exact rfl); (· exact rfl); (· rw [HZS.out.1, tab_size]); rw [World.setRow_alloc_new]; simp only [Act.put]))
  have H8 : Hid (La w b r qm qr M (y7.alloc (.cells (tab 19 (hv M)) 48)) ∧ (IsTab (y7.alloc (.cells (tab 19 (hv M)) 48)) q13 42 32 fun i => bv (ofX M i)) ∧ (IsTab (y7.alloc (.cells (tab 19 (hv M)) 48)) q15 42 32 fun i => bv (mroot M i)) ∧ IsTab (y7.alloc (.cells (tab 19 (hv M)) 48)) y7.heap.size 48 19 (hv M)) := Lib.hid ⟨(H6.out.1.next HB7.out).next (ba _ _), (H6.out.2.1.below HB7.out).below (ba _ _), (H6.out.2.2.below HB7.out).below (ba _ _), IsTab.new y7 48 19 (hv M)⟩
  clear H6 HB7 zHd HZS
  generalize y7.alloc (.cells (tab 19 (hv M)) 48) = y8 at *
  generalize y7.heap.size = q17 at *
  have z26 := HZR.out
  rw [HZ.out] at z26
  have HLR := Lib.hid (ldSl H8.out.1.rm)
  have HLV := Lib.hid (rleaves_walk y8 qm M H8.out.1.rm.mem HOK.out.1)
  go_upto_region 8 with (first
    | ((with_reducible refine wpList_loadE (P := Tryd.prog) (w := y8) (ty := 23) (x := .tmp 54) (p := .pointer (some ⟨r, 0, none⟩)) (v := .slice (some ⟨qm, 0, none⟩) 8192 8192) ?_ ?_ ?_ HLR.out ?_); (· exact rfl); (· exact rfl); (· exact rfl))
    | (go_at_call 22; (with_reducible refine HLV.out.mono ?_); rintro e y9 ⟨al, n, cl, he, hs, hnc, hn, hext, hb⟩; obtain rfl : e = _ := he; have HB9 := Lib.hid hb; have HRR := Lib.hid (rroot_mem y9 al n cl M hs hnc hn hext); clear hb hs hnc hn hext HLV HLR)
    | (go_at_call 21; (with_reducible refine HRR.out.mono ?_); rintro e y10 ⟨he, hb⟩; obtain rfl : e = _ := he; have HB10 := Lib.hid (bl HB9.out hb); clear hb HRR)
    | ((with_reducible refine wpList_store_row (P := Tryd.prog) (w := y10.alloc (.cells zh 41)) ?_ 41 (.tmp 19) (.tmp 58) ?_ y10.heap.size (tab 32 fun i => bv (mroot M i)) ?_ ?_ 41 zh (heap_alloc_last y10 _) (infRr _) ?_ (one_bv _ _) ?_); (· exact rfl); (· exact rfl); (· exact rfl); (· exact rfl); (· rw [HZI.out.2.2, tab_size]); rw [World.setRow_alloc_new]; simp only [Act.put]))
  have HB11 : Hid (Below y8.heap.size y8 (y10.alloc (.cells (tab 32 fun i => bv (mroot M i)) 41)).drew) := Lib.hid (bl HB10.out (ba y10 (.cells (tab 32 fun i => bv (mroot M i)) 41))).drew
  have HS : Hid ((fun z : World => (IsTab z q13 42 32 fun i => bv (ofX M i)) ∧ (IsTab z q15 42 32 fun i => bv (mroot M i)) ∧ (IsTab z y10.heap.size 41 32 fun i => bv (mroot M i)) ∧ IsTab z q17 48 19 (hv M) ∧ IsMac z b M) (y10.alloc (.cells (tab 32 fun i => bv (mroot M i)) 41)).drew) := Lib.hid ⟨H8.out.2.1.below HB11.out, H8.out.2.2.1.below HB11.out, (IsTab.new y10 _ 32 _).drew, H8.out.2.2.2.below HB11.out, H8.out.1.mac.below HB11.out⟩
  have HZ1 : Hid (((fun z : World => (IsTab z q13 42 32 fun i => bv (ofX M i)) ∧ (IsTab z q15 42 32 fun i => bv (mroot M i)) ∧ (IsTab z y10.heap.size 41 32 fun i => bv (mroot M i)) ∧ IsTab z q17 48 19 (hv M) ∧ IsMac z b M) (y10.alloc (.cells (tab 32 fun i => bv (mroot M i)) 41)).drew ∧ IsRm (y10.alloc (.cells (tab 32 fun i => bv (mroot M i)) 41)).drew r qm qr M ∧ Below w.heap.size w (y10.alloc (.cells (tab 32 fun i => bv (mroot M i)) 41)).drew)) := Lib.hid ⟨HS.out, H8.out.1.rm.below HB11.out, bl H8.out.1.below HB11.out⟩
  clear H8 HB9 HB10 HB11 z26
  generalize y10.alloc (.cells (tab 32 fun i => bv (mroot M i)) 41) = y12 at *
  generalize y10.heap.size = q19 at *
  refine wp_region_og (fun z : World => (IsTab z q13 42 32 fun i => bv (ofX M i)) ∧ (IsTab z q15 42 32 fun i => bv (mroot M i)) ∧ (IsTab z q19 41 32 fun i => bv (mroot M i)) ∧ IsTab z q17 48 19 (hv M) ∧ IsMac z b M) (.take 0 (.take 1 (.take 2 (.take 3 (.take 4 (.take 5 (.take 6 (.take 7 (.take 8 (.take 9 (.take 10 (.take 11 (.take 12 (.one 13 (.take 14 (.take 15 (.take 16 (.take 17 (.take 18 (.take 19 (.take 20 (.take 21 (.take 22 (.take 24 (.one 23 (.one 25 (.one 26 (.take 27 (.take 28 (.take 29 (.take 30 (.take 31 (.take 33 (.one 32 (.take 34 (.take 35 (.take 36 (.take 37 (.take 38 (.take 39 (.take 40 (.take 41 (.take 42 (.take 43 (.take 44 (.take 45 (.take 46 (.take 47 (.take 48 (.take 49 (.take 50 (.take 51 (.take 52 (.take 53 (.take 54 (.take 55 (.take 56 (.take 57 (.take 58 (.take 59 (.take 60 (.take 61 (.take 62 (.take 63 .done)))))))))))))))))))))))))))))))))))))))))))))))))))))))))))))))) (by kernel_rfl) (by kernel_rfl) (HS.out) ?_
  generalize y12.drew = z1 at *
  refine og_tk (some 60) (.nilIface) rfl rfl (by go_simp) (fun _ _ => by simp [execOp, go_sem]) ?_
  simp only [Act.put, pS]
  refine og_tk (some 61) (.bool true) rfl rfl (by go_simp) (fun _ _ => by simp [execOp, go_sem]) ?_
  simp only [Act.put, pS]
  refine og_tk (some 62) (.bool true) rfl rfl (by go_simp) (fun _ _ => by simp [execOp, go_sem]) ?_
  simp only [Act.put, pS]
  refine og_tk (some 63) (.nilIface) rfl rfl (by go_simp) (fun _ _ => by simp [execOp, go_sem]) ?_
  simp only [Act.put, pS]
  refine og_tk (some 64) (.bool true) rfl rfl (by go_simp) (fun _ _ => by simp [execOp, go_sem]) ?_
  simp only [Act.put, pS]
  refine og_tk (some 65) (.bool true) rfl rfl (by go_simp) (fun _ _ => by simp [execOp, go_sem]) ?_
  simp only [Act.put, pS]
  refine og_tk (some 66) (.bool true) rfl rfl (by go_simp) (fun _ _ => by simp [execOp, go_sem]) ?_
  simp only [Act.put, pS]
  refine og_tk (some 67) (.nilIface) rfl rfl (by go_simp) (fun _ _ => by simp [execOp, go_sem]) ?_
  simp only [Act.put, pS]
  refine og_tk (some 68) (.bool true) rfl rfl (by go_simp) (fun _ _ => by simp [execOp, go_sem]) ?_
  simp only [Act.put, pS]
  refine og_tk (some 69) (.bool true) rfl rfl (by go_simp) (fun _ _ => by simp [execOp, go_sem]) ?_
  simp only [Act.put, pS]
  refine og_tk (some 70) (.bool true) rfl rfl (by go_simp) (fun _ _ => by simp [execOp, go_sem]) ?_
  simp only [Act.put, pS]
  refine og_ld (some 71) 42 (.tmp 13) (.pointer (some ⟨q13, 0, none⟩)) (dv (ofX M)) rfl rfl (by go_simp) rfl rfl (fun y hy => load32h hy.1) ?_
  simp only [Act.put, pS]
  refine og_tk (some 72) (.pointer (some ⟨r, 0, none⟩)) rfl rfl (by go_simp) (fun _ _ => by simp [execOp, go_sem]) ?_
  simp only [Act.put, pS]
  have HC := Lib.hid (rof_ok z1 r qm qr M HZ1.out.2.1 HOK.out.1 HOK.out.2 (ktab_below HT.out HZ1.out.2.2))
  refine og_f rfl (by go_simp) fun K hK => ?_
  go_simp
  refine HC.out.mono ?_
  rintro e z2 ⟨he, hb⟩
  obtain rfl : e = _ := he
  have HZ2 : Hid (((fun z : World => (IsTab z q13 42 32 fun i => bv (ofX M i)) ∧ (IsTab z q15 42 32 fun i => bv (mroot M i)) ∧ (IsTab z q19 41 32 fun i => bv (mroot M i)) ∧ IsTab z q17 48 19 (hv M) ∧ IsMac z b M) z2 ∧ IsRm z2 r qm qr M ∧ Below w.heap.size w z2)) := Lib.hid ⟨⟨HZ1.out.1.1.below hb, HZ1.out.1.2.1.below hb, HZ1.out.1.2.2.1.below hb, HZ1.out.1.2.2.2.1.below hb, HZ1.out.1.2.2.2.2.below hb⟩, HZ1.out.2.1.below hb, bl HZ1.out.2.2 hb⟩
  refine hK _ _ HZ2.out.1 ?_
  clear hK K hb HC HZ1
  try simp only [List.getElem_toArray, List.getElem_cons_succ, List.getElem_cons_zero, Act.put, pS]
  refine og_tk (some 74) (.bool true) rfl rfl (by go_simp) (fun y hy => exec_eqld (.tmp 71) (.tmp 73) 42 (ofX M) rfl rfl rfl) ?_
  simp only [Act.put, pS]
  refine og_tk (some 75) (.bool true) rfl rfl (by go_simp) (fun _ _ => by simp [execOp, go_sem]) ?_
  simp only [Act.put, pS]
  refine og_tk (some 76) (.bool true) rfl rfl (by go_simp) (fun _ _ => by simp [execOp, go_sem]) ?_
  simp only [Act.put, pS]
  refine og_ld (some 77) 42 (.tmp 15) (.pointer (some ⟨q15, 0, none⟩)) (dv (mroot M)) rfl rfl (by go_simp) rfl rfl (fun y hy => load32h hy.2.1) ?_
  simp only [Act.put, pS]
  refine og_ld (some 78) 41 (.tmp 19) (.pointer (some ⟨q19, 0, none⟩)) (dv (mroot M)) rfl rfl (by go_simp) rfl rfl (fun y hy => load32r hy.2.2.1) ?_
  simp only [Act.put, pS]
  refine og_tk (some 79) (.bool true) rfl rfl (by go_simp) (fun y hy => exec_eqld (.tmp 77) (.tmp 78) 42 (mroot M) rfl rfl rfl) ?_
  simp only [Act.put, pS]
  refine og_tk (some 80) (.bool true) rfl rfl (by go_simp) (fun _ _ => by simp [execOp, go_sem]) ?_
  simp only [Act.put, pS]
  refine og_tk (some 81) (.bool true) rfl rfl (by go_simp) (fun _ _ => by simp [execOp, go_sem]) ?_
  simp only [Act.put, pS]
  refine og_ld (some 82) 48 (.tmp 17) (.pointer (some ⟨q17, 0, none⟩)) (.agg (tab 19 (hv M))) rfl rfl (by go_simp) rfl rfl (fun y hy => loadHd hy.2.2.2.1) ?_
  simp only [Act.put, pS]
  refine og_tk (some 84) (.pointer (some ⟨r, 0, none⟩)) rfl rfl (by go_simp) (fun _ _ => by simp [execOp, go_sem]) ?_
  simp only [Act.put, pS]
  have HC := Lib.hid (digest_walk z2 M HOK.out.2.1 HOK.out.2.2.1 HOK.out.2.2.2 (ktab_below HT.out HZ2.out.2.2))
  refine og_f rfl (by go_simp) fun K hK => ?_
  go_simp
  refine HC.out.mono ?_
  rintro e z3 ⟨he, hb⟩
  obtain rfl : e = _ := he
  have HZ3 : Hid (((fun z : World => (IsTab z q13 42 32 fun i => bv (ofX M i)) ∧ (IsTab z q15 42 32 fun i => bv (mroot M i)) ∧ (IsTab z q19 41 32 fun i => bv (mroot M i)) ∧ IsTab z q17 48 19 (hv M) ∧ IsMac z b M) z3 ∧ IsRm z3 r qm qr M ∧ Below w.heap.size w z3)) := Lib.hid ⟨⟨HZ2.out.1.1.below hb, HZ2.out.1.2.1.below hb, HZ2.out.1.2.2.1.below hb, HZ2.out.1.2.2.2.1.below hb, HZ2.out.1.2.2.2.2.below hb⟩, HZ2.out.2.1.below hb, bl HZ2.out.2.2 hb⟩
  refine hK _ _ HZ3.out.1 ?_
  clear hK K hb HC HZ2
  try simp only [List.getElem_toArray, List.getElem_cons_succ, List.getElem_cons_zero, Act.put, pS]
  have HC := Lib.hid (rHeadOf_ok z3 r qm qr M HZ3.out.2.1)
  refine og_f rfl (by go_simp) fun K hK => ?_
  go_simp
  refine HC.out.mono ?_
  rintro e z4 ⟨q, c, he, hc, hus, hb⟩
  obtain rfl : e = _ := he
  have HZ4 : Hid (((fun z : World => (IsTab z q13 42 32 fun i => bv (ofX M i)) ∧ (IsTab z q15 42 32 fun i => bv (mroot M i)) ∧ (IsTab z q19 41 32 fun i => bv (mroot M i)) ∧ IsTab z q17 48 19 (hv M) ∧ IsMac z b M) z4 ∧ IsRm z4 r qm qr M ∧ Below w.heap.size w z4)) := Lib.hid ⟨⟨HZ3.out.1.1.below hb, HZ3.out.1.2.1.below hb, HZ3.out.1.2.2.1.below hb, HZ3.out.1.2.2.2.1.below hb, HZ3.out.1.2.2.2.2.below hb⟩, HZ3.out.2.1.below hb, bl HZ3.out.2.2 hb⟩
  have HUS := Lib.hid (And.intro hus hc)
  clear hus hc
  refine hK _ _ HZ4.out.1 ?_
  clear hK K hb HC HZ3
  try simp only [List.getElem_toArray, List.getElem_cons_succ, List.getElem_cons_zero, Act.put, pS]
  have HC := Lib.hid (rdigest_ok z4 q c M HUS.out.1 HUS.out.2 HOK.out.2 (ktab_below HT.out HZ4.out.2.2))
  refine og_f rfl (by go_simp) fun K hK => ?_
  go_simp
  refine HC.out.mono ?_
  rintro e z5 ⟨he, hb⟩
  obtain rfl : e = _ := he
  have HZ5 : Hid (((fun z : World => (IsTab z q13 42 32 fun i => bv (ofX M i)) ∧ (IsTab z q15 42 32 fun i => bv (mroot M i)) ∧ (IsTab z q19 41 32 fun i => bv (mroot M i)) ∧ IsTab z q17 48 19 (hv M) ∧ IsMac z b M) z5 ∧ IsRm z5 r qm qr M ∧ Below w.heap.size w z5)) := Lib.hid ⟨⟨HZ4.out.1.1.below hb, HZ4.out.1.2.1.below hb, HZ4.out.1.2.2.1.below hb, HZ4.out.1.2.2.2.1.below hb, HZ4.out.1.2.2.2.2.below hb⟩, HZ4.out.2.1.below hb, bl HZ4.out.2.2 hb⟩
  refine hK _ _ HZ5.out.1 ?_
  clear hK K hb HC HZ4
  try simp only [List.getElem_toArray, List.getElem_cons_succ, List.getElem_cons_zero, Act.put, pS]
  refine og_tk (some 87) (.bool true) rfl rfl (by go_simp) (fun y hy => exec_eqld (.tmp 83) (.tmp 86) 42 (hdX M) rfl rfl rfl) ?_
  simp only [Act.put, pS]
  refine og_tk (some 88) (.bool true) rfl rfl (by go_simp) (fun _ _ => by simp [execOp, go_sem]) ?_
  simp only [Act.put, pS]
  refine og_tk (some 89) (.bool true) rfl rfl (by go_simp) (fun _ _ => by simp [execOp, go_sem]) ?_
  simp only [Act.put, pS]
  refine og_ld (some 90) 42 (.tmp 15) (.pointer (some ⟨q15, 0, none⟩)) (dv (mroot M)) rfl rfl (by go_simp) rfl rfl (fun y hy => load32h hy.2.1) ?_
  simp only [Act.put, pS]
  refine og_ld (some 91) 48 (.tmp 17) (.pointer (some ⟨q17, 0, none⟩)) (.agg (tab 19 (hv M))) rfl rfl (by go_simp) rfl rfl (fun y hy => loadHd hy.2.2.2.1) ?_
  simp only [Act.put, pS]
  refine og_ld (some 93) 42 (.tmp 13) (.pointer (some ⟨q13, 0, none⟩)) (dv (ofX M)) rfl rfl (by go_simp) rfl rfl (fun y hy => load32h hy.1) ?_
  simp only [Act.put, pS]
  have HC := Lib.hid (join_walk z5 (mroot M) M HOK.out.2 (ktab_below HT.out HZ5.out.2.2))
  refine og_f rfl (by go_simp) fun K hK => ?_
  go_simp
  refine HC.out.mono ?_
  rintro e z6 ⟨he, hb⟩
  obtain rfl : e = _ := he
  have HZ6 : Hid (((fun z : World => (IsTab z q13 42 32 fun i => bv (ofX M i)) ∧ (IsTab z q15 42 32 fun i => bv (mroot M i)) ∧ (IsTab z q19 41 32 fun i => bv (mroot M i)) ∧ IsTab z q17 48 19 (hv M) ∧ IsMac z b M) z6 ∧ IsRm z6 r qm qr M ∧ Below w.heap.size w z6)) := Lib.hid ⟨⟨HZ5.out.1.1.below hb, HZ5.out.1.2.1.below hb, HZ5.out.1.2.2.1.below hb, HZ5.out.1.2.2.2.1.below hb, HZ5.out.1.2.2.2.2.below hb⟩, HZ5.out.2.1.below hb, bl HZ5.out.2.2 hb⟩
  refine hK _ _ HZ6.out.1 ?_
  clear hK K hb HC HZ5
  try simp only [List.getElem_toArray, List.getElem_cons_succ, List.getElem_cons_zero, Act.put, pS]
  refine og_tk (some 94) (.bool true) rfl rfl (by go_simp) (fun y hy => exec_eqld (.tmp 92) (.tmp 93) 42 (ofX M) rfl rfl rfl) ?_
  simp only [Act.put, pS]
  refine og_tk (some 95) (.bool true) rfl rfl (by go_simp) (fun _ _ => by simp [execOp, go_sem]) ?_
  simp only [Act.put, pS]
  refine og_tk (some 96) (.bool true) rfl rfl (by go_simp) (fun _ _ => by simp [execOp, go_sem]) ?_
  simp only [Act.put, pS]
  refine og_tk (some 97) (.pointer (some ⟨q17, 16, none⟩)) rfl rfl (by go_simp) (fun _ _ => by simp [execOp, go_sem]) ?_
  simp only [Act.put, pS]
  refine og_ld (some 98) 33 (.tmp 97) (.pointer (some ⟨q17, 16, none⟩)) (.int .u64 M.pc) rfl rfl (by go_simp) rfl rfl (fun y hy => by have h := (show y.cell? ⟨q17, 16, none⟩ = some (.int .u64 M.pc) from IsTab.cell hy.2.2.2.1 16 (by decide)); simp [Instr.loadAt, go_sem, h, Tryd.underlying33]) ?_
  simp only [Act.put, pS]
  refine og_tk (some 99) (.int .u64 M.pc) rfl rfl (by go_simp) (fun _ _ => by simp [execOp, go_sem]) ?_
  simp only [Act.put, pS]
  refine og_tk (some 100) (.bool true) rfl rfl (by go_simp) (fun _ _ => by simp [execOp, go_sem]) ?_
  simp only [Act.put, pS]
  refine og_tk (some 101) (.bool true) rfl rfl (by go_simp) (fun _ _ => by simp [execOp, go_sem]) ?_
  simp only [Act.put, pS]
  refine og_tk (some 102) (.bool true) rfl rfl (by go_simp) (fun _ _ => by simp [execOp, go_sem]) ?_
  simp only [Act.put, pS]
  refine og_tk (some 103) (.pointer (some ⟨q17, 18, none⟩)) rfl rfl (by go_simp) (fun _ _ => by simp [execOp, go_sem]) ?_
  simp only [Act.put, pS]
  refine og_ld (some 104) 33 (.tmp 103) (.pointer (some ⟨q17, 18, none⟩)) (.int .u64 M.exit) rfl rfl (by go_simp) rfl rfl (fun y hy => by have h := (show y.cell? ⟨q17, 18, none⟩ = some (.int .u64 M.exit) from IsTab.cell hy.2.2.2.1 18 (by decide)); simp [Instr.loadAt, go_sem, h, Tryd.underlying33]) ?_
  simp only [Act.put, pS]
  refine og_tk (some 105) (.int .u64 M.exit) rfl rfl (by go_simp) (fun _ _ => by simp [execOp, go_sem]) ?_
  simp only [Act.put, pS]
  refine og_tk (some 106) (.bool true) rfl rfl (by go_simp) (fun _ _ => by simp [execOp, go_sem]) ?_
  simp only [Act.put, pS]
  refine og_tk (some 107) (.bool true) rfl rfl (by go_simp) (fun _ _ => by simp [execOp, go_sem]) ?_
  simp only [Act.put, pS]
  refine og_tk (some 108) (.bool true) rfl rfl (by go_simp) (fun _ _ => by simp [execOp, go_sem]) ?_
  simp only [Act.put, pS]
  refine og_tk (some 109) (.pointer (some ⟨q17, 17, none⟩)) rfl rfl (by go_simp) (fun _ _ => by simp [execOp, go_sem]) ?_
  simp only [Act.put, pS]
  refine og_ld (some 110) 4 (.tmp 109) (.pointer (some ⟨q17, 17, none⟩)) (.bool M.halted) rfl rfl (by go_simp) rfl rfl (fun y hy => by have h := (show y.cell? ⟨q17, 17, none⟩ = some (.bool M.halted) from IsTab.cell hy.2.2.2.1 17 (by decide)); simp [Instr.loadAt, go_sem, h, Tryd.underlying4]) ?_
  simp only [Act.put, pS]
  refine og_tk (some 111) (.bool M.halted) rfl rfl (by go_simp) (fun _ _ => by simp [execOp, go_sem]) ?_
  simp only [Act.put, pS]
  refine og_tk (some 112) (.bool true) rfl rfl (by go_simp) (fun _ _ => by simp [execOp, go_sem]) ?_
  simp only [Act.put, pS]
  refine og_tk (some 113) (.bool true) rfl rfl (by go_simp) (fun _ _ => by simp [execOp, go_sem]) ?_
  simp only [Act.put, pS]
  refine og_tk (some 114) (.bool true) rfl rfl (by go_simp) (fun _ _ => by simp [execOp, go_sem]) ?_
  simp only [Act.put, pS]
  refine og_tk (some 115) (.pointer (some ⟨q17, 0, none⟩)) rfl rfl (by go_simp) (fun _ _ => by simp [execOp, go_sem]) ?_
  simp only [Act.put, pS]
  refine og_ld (some 116) 35 (.tmp 115) (.pointer (some ⟨q17, 0, none⟩)) (.agg (tab 16 (uv M.reg))) rfl rfl (by go_simp) rfl rfl (fun y hy => loadRgBox hy.2.2.2.1) ?_
  simp only [Act.put, pS]
  refine og_tk (some 117) (.pointer (some ⟨b, 0, none⟩)) rfl rfl (by go_simp) (fun _ _ => by simp [execOp, go_sem]) ?_
  simp only [Act.put, pS]
  refine og_tk (some 118) (.pointer (some ⟨b, 0, none⟩)) rfl rfl (by go_simp) (fun _ _ => by simp [execOp, go_sem]) ?_
  simp only [Act.put, pS]
  refine og_tk (some 119) (.pointer (some ⟨b, 8192, none⟩)) rfl rfl (by go_simp) (fun _ _ => by simp [execOp, go_sem]) ?_
  simp only [Act.put, pS]
  refine og_ld (some 120) 35 (.tmp 119) (.pointer (some ⟨b, 8192, none⟩)) (.agg (tab 16 (uv M.reg))) rfl rfl (by go_simp) rfl rfl (fun y hy => loadRg hy.2.2.2.2) ?_
  simp only [Act.put, pS]
  refine og_tk (some 121) (.bool true) rfl rfl (by go_simp) (fun y hy => exec_eqRg (.tmp 116) (.tmp 120) 35 M.reg rfl rfl rfl) ?_
  simp only [Act.put, pS]
  refine og_tk (some 122) (.bool true) rfl rfl (by go_simp) (fun _ _ => by simp [execOp, go_sem]) ?_
  simp only [Act.put, pS]
  refine og_tk (some 10) (.bool true) rfl rfl (by go_simp) (fun _ _ => by simp [execOp, go_sem]) ?_
  simp only [Act.put, pS]
  refine og_done (NoPanic.normal ?_)
  clear HS
  go_wp2_with (fail)
  exact bodyPost_ret (v := .bool true) (by simp [results, Tryd.results4, go_sem]) rfl ⟨rfl, HZ6.out.2.2⟩
theorem commitRoots_walk (a0 : Option Addr) (len0 cap0 : Nat) (a1 : Option Addr) (n1 c1 : Nat) (zs : List Int) (pc exit : Int) (halted : Bool) {w : World} (w0 : IsRecs [.u64, .u64] w a0 len0 cap0) (w1 : IsRow .u64 w a1 n1 c1 zs) (w2 : (Lit.int .u64 pc).wf = true) (w3 : (Lit.int .u64 exit).wf = true) (ht : Laid.KTab w) :
    Calls Tryd.prog 4 #[.slice a0 len0 cap0, .slice a1 n1 c1, .int .u64 pc, .int .u64 exit, .bool halted] w fun e w' => e = .returned (.bool true) ∧ Below w.heap.size w w' := by
  obtain ⟨f, hl, hf, hfb⟩ := recs_cl w0
  obtain ⟨g, h1, hg, hgb⟩ := us_of_row w1
  have q1 : 0 ≤ pc ∧ pc ≤ 18446744073709551615 := ⟨of_decide_eq_true (Bool.and_eq_true_iff.1 w2).1, of_decide_eq_true (Bool.and_eq_true_iff.1 w2).2⟩
  have q2 : 0 ≤ exit ∧ exit ≤ 18446744073709551615 := ⟨of_decide_eq_true (Bool.and_eq_true_iff.1 w3).1, of_decide_eq_true (Bool.and_eq_true_iff.1 w3).2⟩
  obtain ⟨pc, rfl⟩ := Int.eq_ofNat_of_zero_le q1.1
  obtain ⟨exit, rfl⟩ := Int.eq_ofNat_of_zero_le q2.1
  exact roots_in w a0 len0 cap0 a1 n1 c1 pc exit halted f g hl hf hfb h1 hg hgb (by omega) (by omega) ht
end Co
end Go.Proofs.YtjfpbponjhpdhaaDoor
