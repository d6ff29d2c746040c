/-
  WitnessNil: the law. Written by genZw.py. Own work.
-/
import Derived.Test.YtdmffnjbholkkaaDoorZv
namespace Go.Proofs.YtdmffnjbholkkaaDoor
open Go.RowKit
set_option linter.unusedVariables false
set_option linter.unusedSimpArgs false
namespace Wt
open Kc Mk
theorem infR' : (Tryd.prog.info? 28).map (·.size) = some 32 := by kernel_rfl
theorem undR : Tryd.prog.underlying 28 = some (.array (Tryd.prog.arrayLen 28) (Tryd.prog.elem 28)) := by kernel_rfl
theorem loadRb {w : World} {q T : Nat} {x : Hx} (h : IsTab w q T 32 fun i => bv (x i)) : (Instr.loadAt 28 (.pointer (some ⟨q, 0, none⟩))).run Tryd.prog w = .ok (.agg (tab 32 fun i => bv (x i))) w :=
  (run_loadVar_row w q T 28 _ (0, 0) _ h undR rfl (by rw [tab_size]; exact infR'))
set_option maxHeartbeats 4000000 in
set_option maxRecDepth 100000 in
theorem witnessNil_walk {w : World} (a0 a1 : Int) (x2 : Mk.Hx) (w0 : (Lit.int .i64 a0).wf = true) (w1 : (Lit.int .i64 a1).wf = true) (hg : Et w) (ht : Laid.KTab w) :
    Calls Tryd.prog 4 #[.int .i64 a0, .int .i64 a1, Mk.dv x2] w fun e w' => e = .returned (.bool true) ∧ Below w.heap.size w w' := by
  have HT := Lib.hid (And.intro hg ht)
  clear hg ht w0 w1
  have z2 := zeroHash
  generalize hz : (tab 32 fun _ => bv 0#8) = zh at *
  have HZH := Lib.hid hz
  clear hz
  have z1 := zeroPre
  have HBZ := Lib.hid (fun u : World => buildZ u)
  generalize hz : (tab 64 fun _ => bv 0#8) = zq at *
  have HZQ := Lib.hid hz
  clear hz
  have HX : Hid (IsTab (w.alloc (.cells (tab 32 fun i => bv (x2 i)) 28)) w.heap.size 28 32 (fun i => bv (x2 i)) ∧ Below w.heap.size w (w.alloc (.cells (tab 32 fun i => bv (x2 i)) 28))) := Lib.hid ⟨IsTab.new w _ 32 _, ba _ _⟩
  have HIS := Lib.hid (fun y : World => (show Calls Tryd.prog 30 #[.iface 62 (.int .i64 1), .iface 62 (.int .i64 1)] y fun e w' => e = .returned (.bool true) ∧ y = w' from Err.is_num 1 1 y))
  unfold Mk.dv
  go_enter Tryd.func4, Tryd.ntmps4
  go_upto_region 2 with (fail)
  generalize w.alloc (.cells (tab 32 fun i => bv (x2 i)) 28) = y0 at *
  generalize hq : w.heap.size = q at *
  have HQ := Lib.hid hq
  clear hq
  have hc := Add_nil zp y0
  unfold pv nilE at hc
  rw [show (tab 64 fun i => bv (zp i)) = zq from HZQ.out] at hc
  have HC := Lib.hid hc
  clear hc
  go_upto_region 3 with (first
    | ((with_reducible refine Wt.wpList_buildM (P := Tryd.prog) (w := y0) ?_ 37 ?_ (.agg zq) (HBZ.out y0) ?_); (· exact rfl); (· exact rfl))
    | (go_at_call 17; (with_reducible refine HC.out.mono ?_); rintro e y1 ⟨he, hb⟩; obtain rfl : e = _ := he; have HB1 := Lib.hid hb; clear hb HC)
    | ((with_reducible refine wpList_store_row (P := Tryd.prog) (w := y1.alloc (.cells zh 39)) ?_ 39 (.tmp 8) (.tmp 22) ?_ y1.heap.size (tab 32 fun _ => bv 0#8) ?_ ?_ 39 zh (heap_alloc_last y1 _) (infH _) ?_ (one_bv _ _) ?_); (· exact rfl); (· exact rfl); (· exact rfl); (· exact rfl); (· rw [← HZH.out] <;> rw [tab_size, tab_size]); rw [World.setRow_alloc_new]; simp only [Act.put]))
  have H1 : Hid (IsTab (y1.alloc (.cells (tab 32 fun _ => bv 0#8) 39)) q 28 32 (fun i => bv (x2 i)) ∧ Below w.heap.size w (y1.alloc (.cells (tab 32 fun _ => bv 0#8) 39))) := Lib.hid ⟨(HX.out.1.below HB1.out).below (ba _ _), by have h := HX.out.2; rw [← HQ.out] at h; exact bl (bl h HB1.out) (ba _ _)⟩
  clear HX HB1
  generalize y1.alloc (.cells (tab 32 fun _ => bv 0#8) 39) = y2 at *
  have hc := Get_nil x2 y2
  (try unfold dv at hc); (try unfold nilE at hc)
  have HC := Lib.hid hc
  have HL := Lib.hid (loadRb H1.out.1)
  clear hc
  go_upto_region 4 with (first
    | ((with_reducible refine wpList_loadE (P := Tryd.prog) (w := y2) (ty := 28) (x := .tmp 5) (p := .pointer (some ⟨q, 0, none⟩)) (v := .agg (tab 32 fun i => bv (x2 i))) ?_ ?_ ?_ HL.out ?_); (· exact rfl); (· exact rfl); (· exact rfl))
    | (go_at_call 19; (with_reducible refine HC.out.mono ?_); rintro e y3a ⟨he, hb⟩; obtain rfl : e = _ := he; have HB1 := Lib.hid hb; clear hb HC)
    | ((with_reducible refine wpList_store_row (P := Tryd.prog) (w := y3a.alloc (.cells zq 37)) ?_ 37 (.tmp 10) (.tmp 28) ?_ y3a.heap.size (tab 64 fun _ => bv 0#8) ?_ ?_ 37 zq (heap_alloc_last y3a _) (infPre _) ?_ (one_bv _ _) ?_); (· exact rfl); (· exact rfl); (· exact rfl); (· exact rfl); (· rw [← HZQ.out] <;> rw [tab_size, tab_size]); rw [World.setRow_alloc_new]; simp only [Act.put]))
  have H1 : Hid (IsTab (y3a.alloc (.cells (tab 64 fun _ => bv 0#8) 37)) q 28 32 (fun i => bv (x2 i)) ∧ Below w.heap.size w (y3a.alloc (.cells (tab 64 fun _ => bv 0#8) 37))) := Lib.hid ⟨(H1.out.1.below HB1.out).below (ba _ _), bl (bl H1.out.2 HB1.out) (ba _ _)⟩
  clear HB1 HL
  generalize y3a.alloc (.cells (tab 64 fun _ => bv 0#8) 37) = y3 at *
  have hc := Read_nil a0 a1 x2 y3
  (try unfold dv at hc); (try unfold nilE at hc)
  have HC := Lib.hid hc
  have HL := Lib.hid (loadRb H1.out.1)
  clear hc
  go_upto_region 5 with (first
    | ((with_reducible refine wpList_loadE (P := Tryd.prog) (w := y3) (ty := 28) (x := .tmp 5) (p := .pointer (some ⟨q, 0, none⟩)) (v := .agg (tab 32 fun i => bv (x2 i))) ?_ ?_ ?_ HL.out ?_); (· exact rfl); (· exact rfl); (· exact rfl))
    | (go_at_call 24; (with_reducible refine HC.out.mono ?_); rintro e y4a ⟨he, hb⟩; obtain rfl : e = _ := he; have HB1 := Lib.hid hb; clear hb HC)
    | ((with_reducible refine wpList_store_row (P := Tryd.prog) (w := y4a.alloc (.cells zh 39)) ?_ 39 (.tmp 12) (.tmp 36) ?_ y4a.heap.size (tab 32 fun _ => bv 0#8) ?_ ?_ 39 zh (heap_alloc_last y4a _) (infH _) ?_ (one_bv _ _) ?_); (· exact rfl); (· exact rfl); (· exact rfl); (· exact rfl); (· rw [← HZH.out] <;> rw [tab_size, tab_size]); rw [World.setRow_alloc_new]; simp only [Act.put]))
  have H1 : Hid (IsTab (y4a.alloc (.cells (tab 32 fun _ => bv 0#8) 39)) q 28 32 (fun i => bv (x2 i)) ∧ Below w.heap.size w (y4a.alloc (.cells (tab 32 fun _ => bv 0#8) 39))) := Lib.hid ⟨(H1.out.1.below HB1.out).below (ba _ _), bl (bl H1.out.2 HB1.out) (ba _ _)⟩
  clear HB1 HL
  generalize y4a.alloc (.cells (tab 32 fun _ => bv 0#8) 39) = y4 at *
  have hc := Write_nil a0 a1 x2 x2 y4
  (try unfold dv at hc); (try unfold nilE at hc)
  have HC := Lib.hid hc
  have HL := Lib.hid (loadRb H1.out.1)
  clear hc
  go_upto_region 6 with (first
    | ((with_reducible refine wpList_loadE (P := Tryd.prog) (w := y4) (ty := 28) (x := .tmp 5) (p := .pointer (some ⟨q, 0, none⟩)) (v := .agg (tab 32 fun i => bv (x2 i))) ?_ ?_ ?_ HL.out ?_); (· exact rfl); (· exact rfl); (· exact rfl))
    | (go_at_call 26; (with_reducible refine HC.out.mono ?_); rintro e y5a ⟨he, hb⟩; obtain rfl : e = _ := he; have HB1 := Lib.hid hb; clear hb HC)
    | ((with_reducible refine wpList_store_row (P := Tryd.prog) (w := y5a.alloc (.cells zh 39)) ?_ 39 (.tmp 14) (.tmp 45) ?_ y5a.heap.size (tab 32 fun _ => bv 0#8) ?_ ?_ 39 zh (heap_alloc_last y5a _) (infH _) ?_ (one_bv _ _) ?_); (· exact rfl); (· exact rfl); (· exact rfl); (· exact rfl); (· rw [← HZH.out] <;> rw [tab_size, tab_size]); rw [World.setRow_alloc_new]; simp only [Act.put]))
  have H1 : Hid (IsTab (y5a.alloc (.cells (tab 32 fun _ => bv 0#8) 39)) q 28 32 (fun i => bv (x2 i)) ∧ Below w.heap.size w (y5a.alloc (.cells (tab 32 fun _ => bv 0#8) 39))) := Lib.hid ⟨(H1.out.1.below HB1.out).below (ba _ _), bl (bl H1.out.2 HB1.out) (ba _ _)⟩
  clear HB1 HL
  generalize y5a.alloc (.cells (tab 32 fun _ => bv 0#8) 39) = y5 at *
  have hc := Drop_nil x2 y5
  (try unfold dv at hc); (try unfold nilE at hc)
  have HC := Lib.hid hc
  have HL := Lib.hid (loadRb H1.out.1)
  clear hc
  go_upto_region 7 with (first
    | ((with_reducible refine wpList_loadE (P := Tryd.prog) (w := y5) (ty := 28) (x := .tmp 5) (p := .pointer (some ⟨q, 0, none⟩)) (v := .agg (tab 32 fun i => bv (x2 i))) ?_ ?_ ?_ HL.out ?_); (· exact rfl); (· exact rfl); (· exact rfl))
    | (go_at_call 22; (with_reducible refine HC.out.mono ?_); rintro e y6 ⟨he, hb⟩; obtain rfl : e = _ := he; have HB1 := Lib.hid hb; clear hb HC))
  have hcell : ∀ j, j < 5 → (y6.alloc (.cells #[.iface 62 (.int .i64 1), .iface 62 (.int .i64 1), .iface 62 (.int .i64 1), .iface 62 (.int .i64 1), .iface 62 (.int .i64 1)] 41)).cell? ⟨y6.heap.size, j, none⟩ = some (.iface 62 (.int .i64 1)) := fun j hj => by
    rw [World.cell?_alloc_at _ _ _ _ (by simp)]
    rcases j with _ | _ | _ | _ | _ | j <;> first | rfl | omega
  have H7 : Hid (Below w.heap.size w (y6.alloc (.cells #[.iface 62 (.int .i64 1), .iface 62 (.int .i64 1), .iface 62 (.int .i64 1), .iface 62 (.int .i64 1), .iface 62 (.int .i64 1)] 41))) := Lib.hid (bl (bl H1.out.2 HB1.out) (ba _ _))
  have k0 := hcell 0 (by decide)
  have k1 := hcell 1 (by decide)
  have k2 := hcell 2 (by decide)
  have k3 := hcell 3 (by decide)
  have k4 := hcell 4 (by decide)
  clear hcell H1 HB1 HL
  generalize y6.alloc (.cells #[.iface 62 (.int .i64 1), .iface 62 (.int .i64 1), .iface 62 (.int .i64 1), .iface 62 (.int .i64 1), .iface 62 (.int .i64 1)] 41) = y7 at *
  generalize y6.heap.size = q7 at *
  have HF := Lib.hid (fixed06_walk y7 (HT.out.1.next H7.out) (ktab_below HT.out.2 H7.out))
  refine wp_loop_rounds 6 ?_
  rw [rounds_succ]
  go_wp2_with (go_at_call 30; (with_reducible refine (HIS.out _).mono ?_); rintro e y ⟨he, hw⟩; obtain rfl : e = _ := he; subst hw)
  rw [rounds_succ]
  go_wp2_with (go_at_call 30; (with_reducible refine (HIS.out _).mono ?_); rintro e y ⟨he, hw⟩; obtain rfl : e = _ := he; subst hw)
  rw [rounds_succ]
  go_wp2_with (go_at_call 30; (with_reducible refine (HIS.out _).mono ?_); rintro e y ⟨he, hw⟩; obtain rfl : e = _ := he; subst hw)
  rw [rounds_succ]
  go_wp2_with (go_at_call 30; (with_reducible refine (HIS.out _).mono ?_); rintro e y ⟨he, hw⟩; obtain rfl : e = _ := he; subst hw)
  rw [rounds_succ]
  go_wp2_with (go_at_call 30; (with_reducible refine (HIS.out _).mono ?_); rintro e y ⟨he, hw⟩; obtain rfl : e = _ := he; subst hw)
  rw [rounds_succ]
  clear k0 k1 k2 k3 k4
  go_wp2_with (first
    | (go_at_call 15; (with_reducible refine HF.out.mono ?_); rintro e y8 ⟨he, hb⟩; obtain rfl : e = _ := he; have H8 := Lib.hid (bl H7.out hb); clear hb HF)
    | (go_at_call 29; (with_reducible refine (Len_nil _).mono ?_); rintro e y ⟨he, hw⟩; obtain rfl : e = _ := he; subst hw)
    | (go_at_call 27; (with_reducible refine (Asked_nil _).mono ?_); rintro e y ⟨he, hw⟩; obtain rfl : e = _ := he; subst hw)
    | (go_at_call 28; (with_reducible refine (Copy_nil _).mono ?_); rintro e y ⟨he, hw⟩; obtain rfl : e = _ := he; subst hw))
  exact bodyPost_ret (v := .bool true) (by simp [results, Tryd.results4, go_sem]) rfl ⟨rfl, H8.out⟩
end Wt
end Go.Proofs.YtdmffnjbholkkaaDoor
