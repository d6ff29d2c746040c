/- Merged. Own work. -/
import Derived.Test.YtdmffnjbholkkaaDoorZk
namespace Go.Proofs.YtdmffnjbholkkaaDoor
open Go.RowKit
set_option linter.unusedVariables false
set_option linter.unusedSimpArgs false
set_option linter.unusedVariables false
set_option linter.unusedSimpArgs false
namespace Wt
open Kc Mk
def nilE : Value := .iface 62 (.int .i64 1)
theorem buildZh (w : World) : (Instr.build 39 #[]).run Tryd.prog w = .ok (.agg (tab 32 fun _ => bv 0#8)) w := by kernel_rfl
theorem Len_nil (w : World) : Calls Tryd.prog 29 #[.pointer none] w fun e w' => e = .returned (.int .i64 0) ∧ w = w' := by
  go_enter Tryd.func29, Tryd.ntmps29
  go_wp2_with (fail)
  exact bodyPost_ret (v := .int .i64 0) (by simp [results, Tryd.results29, go_sem]) rfl ⟨rfl, rfl⟩
theorem Asked_nil (w : World) : Calls Tryd.prog 27 #[.pointer none] w fun e w' => e = .returned (.slice none 0 0) ∧ w = w' := by
  go_enter Tryd.func27, Tryd.ntmps27
  go_wp2_with (fail)
  exact bodyPost_ret (v := .slice none 0 0) (by simp [results, Tryd.results27, go_sem]) rfl ⟨rfl, rfl⟩
theorem Copy_nil (w : World) : Calls Tryd.prog 28 #[.pointer none] w fun e w' => e = .returned (.pointer none) ∧ w = w' := by
  go_enter Tryd.func28, Tryd.ntmps28
  go_wp2_with (fail)
  exact bodyPost_ret (v := .pointer none) (by simp [results, Tryd.results28, go_sem]) rfl ⟨rfl, rfl⟩
set_option maxRecDepth 100000 in
theorem Drop_nil (h : Hx) (w : World) : Calls Tryd.prog 22 #[.pointer none, dv h] w fun e w' => e = .returned nilE ∧ Below w.heap.size w w' := by
  have HB : Hid (Below w.heap.size w (w.alloc (.cells (tab 32 fun i => bv (h i)) 39))) := Lib.hid ((Below.refl _ _).alloc (Nat.le_refl _) _)
  unfold dv
  go_enter Tryd.func22, Tryd.ntmps22
  go_wp2_with (fail)
  exact bodyPost_ret (v := nilE) (by simp [results, Tryd.results22, go_sem, nilE]) rfl ⟨rfl, HB.out⟩
set_option maxHeartbeats 1000000 in
set_option maxRecDepth 100000 in
theorem Add_nil (p : Px) (w : World) : Calls Tryd.prog 17 #[.pointer none, pv p] w fun e w' => e = .returned (.tuple #[.agg (tab 32 fun _ => bv 0#8), nilE]) ∧ Below w.heap.size w w' := by
  have z1 := zeroHash
  have HBZ := buildZh
  generalize hz : (tab 32 fun _ => bv 0#8) = zh at *
  have HZ := Lib.hid hz
  have HA : Hid (IsTab ((w.alloc (.cells (tab 64 fun i => bv (p i)) 37)).alloc (.cells zh 39)) (w.heap.size + 1) 39 32 (fun _ => bv 0#8) ∧ Below w.heap.size w ((w.alloc (.cells (tab 64 fun i => bv (p i)) 37)).alloc (.cells zh 39))) := by
    refine Lib.hid ⟨?_, ((Below.refl _ _).alloc (Nat.le_refl _) _).alloc (by simp) _⟩
    rw [← hz]
    have := IsTab.new (w.alloc (.cells (tab 64 fun i => bv (p i)) 37)) 39 32 fun _ => bv 0#8
    simpa using this
  clear hz
  have HI : Hid ((Tryd.prog.info? 39).map (·.size) = some zh.size) := Lib.hid (by rw [← HZ.out]; exact infH _)
  have HBZ := Lib.hid HBZ
  unfold pv
  go_enter Tryd.func17, Tryd.ntmps17
  go_upto_region 1 with (fail)
  generalize ((w.alloc (.cells (tab 64 fun i => bv (p i)) 37)).alloc (.cells zh 39)) = y0 at *
  go_wp2_with (first
    | ((with_reducible refine Wt.wpList_buildM (P := Tryd.prog) (w := y0) ?_ 39 ?_ (.agg zh) (HBZ.out y0) ?_); (· exact rfl); (· exact rfl))
    | ((with_reducible refine wpList_store_row (P := Tryd.prog) (w := y0) ?_ 39 (.tmp 4) (.tmp 9) ?_ (w.heap.size + 1) zh ?_ ?_ 39 (tab 32 fun _ => bv 0#8) ?_ HI.out ?_ ?_ ?_); (· exact rfl); (· exact rfl); (· exact rfl); (· exact rfl); (· exact HA.out.1); (· rw [← HZ.out]); (· rw [← HZ.out]; exact one_bv _ _)))
  rw [← HZ.out]
  have hr : IsTab (y0.setRow (w.heap.size + 1) (tab 32 fun _ => bv 0#8)) (w.heap.size + 1) 39 32 fun _ => bv 0#8 := HA.out.1.row
  exact bodyPost_ret (Kc.results_cell_tmp rfl _ _ (w.heap.size + 1) 39 _ (0, 0) _ rfl hr undH rfl (infH _) nilE rfl) rfl ⟨rfl, below_setRow HA.out.2 (by omega) _⟩
set_option maxHeartbeats 1000000 in
set_option maxRecDepth 100000 in
theorem Get_nil (h : Hx) (w : World) : Calls Tryd.prog 19 #[.pointer none, dv h] w fun e w' => e = .returned (.tuple #[.agg (tab 64 fun _ => bv 0#8), nilE]) ∧ Below w.heap.size w w' := by
  have z1 := zeroPre
  have HBZ := buildZ
  generalize hz : (tab 64 fun _ => bv 0#8) = zh at *
  have HZ := Lib.hid hz
  have HA : Hid (IsTab ((w.alloc (.cells (tab 32 fun i => bv (h i)) 39)).alloc (.cells zh 37)) (w.heap.size + 1) 37 64 (fun _ => bv 0#8) ∧ Below w.heap.size w ((w.alloc (.cells (tab 32 fun i => bv (h i)) 39)).alloc (.cells zh 37))) := by
    refine Lib.hid ⟨?_, ((Below.refl _ _).alloc (Nat.le_refl _) _).alloc (by simp) _⟩
    rw [← hz]
    have := IsTab.new (w.alloc (.cells (tab 32 fun i => bv (h i)) 39)) 37 64 fun _ => bv 0#8
    simpa using this
  clear hz
  have HI : Hid ((Tryd.prog.info? 37).map (·.size) = some zh.size) := Lib.hid (by rw [← HZ.out]; exact infPre _)
  have HBZ := Lib.hid HBZ
  unfold dv
  go_enter Tryd.func19, Tryd.ntmps19
  go_upto_region 1 with (fail)
  generalize ((w.alloc (.cells (tab 32 fun i => bv (h i)) 39)).alloc (.cells zh 37)) = y0 at *
  go_wp2_with (first
    | ((with_reducible refine Wt.wpList_buildM (P := Tryd.prog) (w := y0) ?_ 37 ?_ (.agg zh) (HBZ.out y0) ?_); (· exact rfl); (· exact rfl))
    | ((with_reducible refine wpList_store_row (P := Tryd.prog) (w := y0) ?_ 37 (.tmp 4) (.tmp 10) ?_ (w.heap.size + 1) zh ?_ ?_ 37 (tab 64 fun _ => bv 0#8) ?_ HI.out ?_ ?_ ?_); (· exact rfl); (· exact rfl); (· exact rfl); (· exact rfl); (· exact HA.out.1); (· rw [← HZ.out]); (· rw [← HZ.out]; exact one_bv _ _)))
  rw [← HZ.out]
  have hr : IsTab (y0.setRow (w.heap.size + 1) (tab 64 fun _ => bv 0#8)) (w.heap.size + 1) 37 64 fun _ => bv 0#8 := HA.out.1.row
  exact bodyPost_ret (Kc.results_cell_tmp rfl _ _ (w.heap.size + 1) 37 _ (0, 0) _ rfl hr undPre rfl (infPre _) nilE rfl) rfl ⟨rfl, below_setRow HA.out.2 (by omega) _⟩
theorem results_cell_tmp2 {P : Program} {fn : Func} {p s u : Tmp} {ty : TypeId} (h : fn.results = #[.cell p ty, .tmp s, .tmp u]) (tmps : Array Value) (w : World) (g : Nat) (t : TypeId) (cs : Array Value) (fr : Nat × Nat) (d : TypeDesc)
    (hp : tmps.getD p undef = .pointer (some ⟨g, 0, none⟩)) (hg : w.heap[g]? = some (.cells cs t fr))
    (hu : P.underlying ty = some d) (hd : (match d with | .struct _ | .array _ _ => true | _ => false) = true) (hi : (P.info? ty).map (·.size) = some cs.size) (v x : Value) (hs : tmps.getD s undef = v) (hx : tmps.getD u undef = x) :
    (results fn tmps).run P w = .ok (.tuple #[.agg cs, v, x]) w := by
  have hs' : tmps[s]?.getD undef = v := by simpa using hs
  have hx' : tmps[u]?.getD undef = x := by simpa using hx
  have hp' : tmps[p]?.getD undef = .pointer (some ⟨g, 0, none⟩) := by simpa using hp
  simp [results, h, hp', hs', hx', asAddr, run_loadVar_row w g t ty cs fr d hg hu hd hi]
set_option maxHeartbeats 1000000 in
set_option maxRecDepth 100000 in
theorem way_nil (depth i : Int) (h : Hx) (w : World) : Calls Tryd.prog 55 #[.pointer none, .int .i64 depth, dv h, .int .i64 i] w fun e w' => e = .returned (.tuple #[.agg (tab 32 fun _ => bv 0#8), .slice none 0 0, nilE]) ∧ Below w.heap.size w w' := by
  have z1 := zeroHash
  generalize hz : (tab 32 fun _ => bv 0#8) = zh at *
  have HZ := Lib.hid hz
  have HA : Hid (IsTab ((w.alloc (.cells (tab 32 fun i => bv (h i)) 39)).alloc (.cells zh 39)) (w.heap.size + 1) 39 32 (fun _ => bv 0#8) ∧ Below w.heap.size w ((w.alloc (.cells (tab 32 fun i => bv (h i)) 39)).alloc (.cells zh 39))) := by
    refine Lib.hid ⟨?_, ((Below.refl _ _).alloc (Nat.le_refl _) _).alloc (by simp) _⟩
    rw [← hz]
    have := IsTab.new (w.alloc (.cells (tab 32 fun i => bv (h i)) 39)) 39 32 fun _ => bv 0#8
    simpa using this
  clear hz
  have HI : Hid ((Tryd.prog.info? 39).map (·.size) = some zh.size) := Lib.hid (by rw [← HZ.out]; exact infH _)
  unfold dv
  go_enter Tryd.func55, Tryd.ntmps55
  go_upto_region 1 with (fail)
  generalize ((w.alloc (.cells (tab 32 fun i => bv (h i)) 39)).alloc (.cells zh 39)) = y0 at *
  go_wp2_with ((with_reducible refine wpList_store_row (P := Tryd.prog) (w := y0) ?_ 39 (.tmp 8) (.tmp 18) ?_ (w.heap.size + 1) zh ?_ ?_ 39 (tab 32 fun _ => bv 0#8) ?_ HI.out ?_ ?_ ?_); (· exact rfl); (· exact rfl); (· exact rfl); (· exact rfl); (· exact HA.out.1); (· rw [← HZ.out]); (· rw [← HZ.out]; exact one_bv _ _))
  rw [← HZ.out]
  have hr : IsTab (y0.setRow (w.heap.size + 1) (tab 32 fun _ => bv 0#8)) (w.heap.size + 1) 39 32 fun _ => bv 0#8 := HA.out.1.row
  exact bodyPost_ret (results_cell_tmp2 rfl _ _ (w.heap.size + 1) 39 _ (0, 0) _ rfl hr undH rfl (infH _) (.slice none 0 0) nilE rfl rfl) rfl ⟨rfl, below_setRow HA.out.2 (by omega) _⟩
/-- Read answers what the way answers; what the way keeps, Read keeps. -/
theorem read_by (depth i : Int) (sp : Value) (h x : Hx) (V E : Value) (Z : World → Prop) (w : World) (Rr : World → World → Prop)
    (hC : ∀ y, Below w.heap.size w y → y.heap.size = w.heap.size + 2 → Calls Tryd.prog 55 #[sp, .int .i64 depth, dv h, .int .i64 i] y fun e w' => e = .returned (.tuple #[dv x, V, E]) ∧ Rr y w')
    (hR : ∀ y z, Rr y z → y.heap.size ≤ z.heap.size ∧ z.heap[w.heap.size + 1]? = y.heap[w.heap.size + 1]?)
    (hZ : ∀ y z u, Below w.heap.size w y → y.heap.size = w.heap.size + 2 → Rr y z → Kept (fun k => k = w.heap.size + 1) z u → Z u) :
    Calls Tryd.prog 24 #[sp, .int .i64 depth, dv h, .int .i64 i] w fun e w' => e = .returned (.tuple #[dv x, E]) ∧ Z w' := by
  have z1 := zeroHash
  generalize hz : (tab 32 fun _ => bv 0#8) = zh at *
  have HZ := Lib.hid hz
  have HA : Hid (IsTab ((w.alloc (.cells (tab 32 fun i => bv (h i)) 39)).alloc (.cells zh 39)) w.heap.size 39 32 (fun i => bv (h i)) ∧ IsTab ((w.alloc (.cells (tab 32 fun i => bv (h i)) 39)).alloc (.cells zh 39)) (w.heap.size + 1) 39 32 (fun _ => bv 0#8) ∧ Below w.heap.size w ((w.alloc (.cells (tab 32 fun i => bv (h i)) 39)).alloc (.cells zh 39)) ∧ ((w.alloc (.cells (tab 32 fun i => bv (h i)) 39)).alloc (.cells zh 39)).heap.size = w.heap.size + 2) := by
    refine Lib.hid ⟨(IsTab.new w _ 32 _).alloc _, ?_, ((Below.refl _ _).alloc (Nat.le_refl _) _).alloc (by simp) _, by simp⟩
    rw [← hz]
    have := IsTab.new (w.alloc (.cells (tab 32 fun i => bv (h i)) 39)) 39 32 fun _ => bv 0#8
    simpa using this
  clear hz
  have HI : Hid ((Tryd.prog.info? 39).map (·.size) = some zh.size) := Lib.hid (by rw [← HZ.out]; exact infH _)
  have HZZ := Lib.hid (And.intro hR hZ)
  have HCC := Lib.hid hC
  clear hR hZ hC
  unfold dv
  go_enter Tryd.func24, Tryd.ntmps24
  go_upto_region 1 with (fail)
  generalize ((w.alloc (.cells (tab 32 fun i => bv (h i)) 39)).alloc (.cells zh 39)) = y0 at *
  have hc := HCC.out y0 HA.out.2.2.1 HA.out.2.2.2
  unfold dv at hc
  have HC := Lib.hid hc
  have HLH := Lib.hid (loadHb HA.out.1)
  clear hc
  go_upto_region 2 with (first
    | ((with_reducible refine wpList_loadE (P := Tryd.prog) (w := y0) (ty := 39) (x := .tmp 6) (p := .pointer (some ⟨w.heap.size, 0, none⟩)) (v := .agg (tab 32 fun i => bv (h i))) ?_ ?_ ?_ HLH.out ?_); (· exact rfl); (· exact rfl); (· exact rfl))
    | (go_at_call 55; (with_reducible refine HC.out.mono ?_); rintro e y2 ⟨he, hst⟩; obtain rfl : e = _ := he; have HS2 := Lib.hid hst; clear hst)
    | ((with_reducible refine wpList_store_row (P := Tryd.prog) (w := y2.alloc (.cells zh 39)) ?_ 39 (.tmp 10) (.tmp 19) ?_ y2.heap.size (tab 32 fun i => bv (x i)) ?_ ?_ 39 zh (heap_alloc_last y2 _) (infH _) ?_ (one_bv _ _) ?_); (· exact rfl); (· exact rfl); (· exact rfl); (· exact rfl); (· rw [← HZ.out, tab_size, tab_size]); rw [World.setRow_alloc_new]; simp only [Act.put]))
  have H3 : Hid (IsTab (y2.alloc (.cells (tab 32 fun i => bv (x i)) 39)) y2.heap.size 39 32 (fun i => bv (x i)) ∧ IsTab (y2.alloc (.cells (tab 32 fun i => bv (x i)) 39)) (w.heap.size + 1) 39 32 (fun _ => bv 0#8) ∧ Kept (fun k => k = w.heap.size + 1) y2 (y2.alloc (.cells (tab 32 fun i => bv (x i)) 39))) := Lib.hid ⟨IsTab.new y2 _ 32 _, IsTab.alloc (show y2.heap[w.heap.size + 1]? = _ from (HZZ.out.1 _ _ HS2.out).2.trans HA.out.2.1) _, (Kept.refl _ _).alloc _⟩
  have HLX := Lib.hid (loadHb H3.out.1)
  generalize y2.alloc (.cells (tab 32 fun i => bv (x i)) 39) = y3 at *
  generalize hq : y2.heap.size = q2 at *
  go_wp2_with (first
    | ((with_reducible refine wpList_loadE (P := Tryd.prog) (w := y3) (ty := 39) (x := .tmp 10) (p := .pointer (some ⟨q2, 0, none⟩)) (v := .agg (tab 32 fun i => bv (x i))) ?_ ?_ ?_ HLX.out ?_); (· exact rfl); (· exact rfl); (· exact rfl))
    | ((with_reducible refine wpList_store_row (P := Tryd.prog) (w := y3) ?_ 39 (.tmp 8) (.tmp 22) ?_ (w.heap.size + 1) (tab 32 fun i => bv (x i)) ?_ ?_ 39 (tab 32 fun _ => bv 0#8) ?_ (infH _) ?_ (one_bv _ _) ?_); (· exact rfl); (· exact rfl); (· exact rfl); (· exact rfl); (· exact H3.out.2.1); (· rw [tab_size, tab_size])))
  have hr : IsTab (y3.setRow (w.heap.size + 1) (tab 32 fun i => bv (x i))) (w.heap.size + 1) 39 32 fun i => bv (x i) := H3.out.2.1.row
  have hk : Kept (fun k => k = w.heap.size + 1) y3 (y3.setRow (w.heap.size + 1) (tab 32 fun i => bv (x i))) := ⟨by simp, by simp, by simp, by simp, fun k _ hk => setRow_other _ _ _ _ hk⟩
  exact bodyPost_ret (Kc.results_cell_tmp rfl _ _ (w.heap.size + 1) 39 _ (0, 0) _ rfl hr undH rfl (infH _) E rfl) rfl ⟨rfl, HZZ.out.2 _ _ _ HA.out.2.2.1 HA.out.2.2.2 HS2.out (H3.out.2.2.trans hk fun _ _ h => h)⟩
theorem Read_nil (depth i : Int) (h : Hx) (w : World) : Calls Tryd.prog 24 #[.pointer none, .int .i64 depth, dv h, .int .i64 i] w fun e w' => e = .returned (.tuple #[dv fun _ => 0#8, nilE]) ∧ Below w.heap.size w w' := by
  refine read_by depth i (.pointer none) h (fun _ => 0#8) (.slice none 0 0) nilE (Below w.heap.size w) w (fun y z => Below y.heap.size y z ∧ y.heap.size = w.heap.size + 2) (fun y _ hy => ?_) (fun y z hr => ⟨hr.1.size, hr.1.block _ (by have := hr.2; omega)⟩) fun y z u h1 h2 h3 h4 => below_of (bl h1 h3.1) h4 fun j _ hj => by omega
  refine (way_nil depth i h y).mono ?_
  rintro e w' ⟨he, hb⟩
  exact ⟨he, hb, hy⟩
set_option maxHeartbeats 1000000 in
set_option maxRecDepth 100000 in
theorem Write_nil (depth i : Int) (h l : Hx) (w : World) : Calls Tryd.prog 26 #[.pointer none, .int .i64 depth, dv h, .int .i64 i, dv l] w fun e w' => e = .returned (.tuple #[dv fun _ => 0#8, nilE]) ∧ Below w.heap.size w w' := by
  have z1 := zeroHash
  generalize hz : (tab 32 fun _ => bv 0#8) = zh at *
  have HZ := Lib.hid hz
  have HA : Hid (IsTab (((w.alloc (.cells (tab 32 fun i => bv (h i)) 39)).alloc (.cells (tab 32 fun i => bv (l i)) 39)).alloc (.cells zh 39)) w.heap.size 39 32 (fun i => bv (h i)) ∧ IsTab (((w.alloc (.cells (tab 32 fun i => bv (h i)) 39)).alloc (.cells (tab 32 fun i => bv (l i)) 39)).alloc (.cells zh 39)) (w.heap.size + 2) 39 32 (fun _ => bv 0#8) ∧ Below w.heap.size w (((w.alloc (.cells (tab 32 fun i => bv (h i)) 39)).alloc (.cells (tab 32 fun i => bv (l i)) 39)).alloc (.cells zh 39)) ∧ (((w.alloc (.cells (tab 32 fun i => bv (h i)) 39)).alloc (.cells (tab 32 fun i => bv (l i)) 39)).alloc (.cells zh 39)).heap.size = w.heap.size + 3) := by
    refine Lib.hid ⟨((IsTab.new w _ 32 _).alloc _).alloc _, ?_, (((Below.refl _ _).alloc (Nat.le_refl _) _).alloc (by simp) _).alloc (by simp; omega) _, by simp⟩
    rw [← hz]
    have := IsTab.new ((w.alloc (.cells (tab 32 fun i => bv (h i)) 39)).alloc (.cells (tab 32 fun i => bv (l i)) 39)) 39 32 fun _ => bv 0#8
    simpa using this
  clear hz
  have HI : Hid ((Tryd.prog.info? 39).map (·.size) = some zh.size) := Lib.hid (by rw [← HZ.out]; exact infH _)
  unfold dv nilE
  go_enter Tryd.func26, Tryd.ntmps26
  go_upto_region 1 with (fail)
  generalize (((w.alloc (.cells (tab 32 fun i => bv (h i)) 39)).alloc (.cells (tab 32 fun i => bv (l i)) 39)).alloc (.cells zh 39)) = y0 at *
  have hc := way_nil depth i h y0
  unfold dv nilE at hc
  have HC := Lib.hid hc
  have HLH := Lib.hid (loadHb HA.out.1)
  clear hc
  go_upto_region 2 with (first
    | ((with_reducible refine wpList_loadE (P := Tryd.prog) (w := y0) (ty := 39) (x := .tmp 7) (p := .pointer (some ⟨w.heap.size, 0, none⟩)) (v := .agg (tab 32 fun i => bv (h i))) ?_ ?_ ?_ HLH.out ?_); (· exact rfl); (· exact rfl); (· exact rfl))
    | (go_at_call 55; (with_reducible refine HC.out.mono ?_); rintro e y2 ⟨he, hst⟩; obtain rfl : e = _ := he; have HS2 := Lib.hid hst; clear hst)
    | ((with_reducible refine wpList_store_row (P := Tryd.prog) (w := y2.alloc (.cells zh 39)) ?_ 39 (.tmp 12) (.tmp 24) ?_ y2.heap.size (tab 32 fun _ => bv 0#8) ?_ ?_ 39 zh (heap_alloc_last y2 _) (infH _) ?_ (one_bv _ _) ?_); (· exact rfl); (· exact rfl); (· exact rfl); (· exact rfl); (· rw [← HZ.out]); rw [World.setRow_alloc_new]; simp only [Act.put]))
  have H3 : Hid (IsTab (y2.alloc (.cells (tab 32 fun _ => bv 0#8) 39)) (w.heap.size + 2) 39 32 (fun _ => bv 0#8) ∧ Below w.heap.size w (y2.alloc (.cells (tab 32 fun _ => bv 0#8) 39))) := Lib.hid ⟨(HA.out.2.1.below HS2.out).alloc _, (bl HA.out.2.2.1 HS2.out).alloc (bl HA.out.2.2.1 HS2.out).size _⟩
  generalize y2.alloc (.cells (tab 32 fun _ => bv 0#8) 39) = y3 at *
  generalize hq : y2.heap.size = q2 at *
  go_wp2_with ((with_reducible refine wpList_store_row (P := Tryd.prog) (w := y3) ?_ 39 (.tmp 10) (.tmp 29) ?_ (w.heap.size + 2) zh ?_ ?_ 39 (tab 32 fun _ => bv 0#8) ?_ HI.out ?_ ?_ ?_); (· exact rfl); (· exact rfl); (· exact rfl); (· exact rfl); (· exact H3.out.1); (· rw [← HZ.out]); (· rw [← HZ.out]; exact one_bv _ _))
  rw [← HZ.out]
  have hr : IsTab (y3.setRow (w.heap.size + 2) (tab 32 fun _ => bv 0#8)) (w.heap.size + 2) 39 32 fun _ => bv 0#8 := H3.out.1.row
  exact bodyPost_ret (Kc.results_cell_tmp rfl _ _ (w.heap.size + 2) 39 _ (0, 0) _ rfl hr undH rfl (infH _) nilE rfl) rfl ⟨rfl, below_setRow H3.out.2 (by omega) _⟩
/-- The half that a place's last bit tells. -/
theorem side_walk (q : Nat) (i : Int) (w : World) : Calls Tryd.prog 57 #[.pointer (some ⟨q, 0, none⟩), .int .i64 i] w fun e w' => e = .returned (if i.tmod 2 = 0 then .slice (some ⟨q, 0, none⟩) 32 64 else .slice (some ⟨q, 32, none⟩) 32 32) ∧ w = w' := by
  have s1 := slPreH q
  have s2 := slPreL q
  by_cases hi : i.tmod 2 = 0
  · rw [if_pos hi]
    have t1 : (i.tmod 2 == 0) = true := by simp [hi]
    clear hi
    go_enter Tryd.func57, Tryd.ntmps57
    go_wp2_with (fail)
    exact bodyPost_ret (v := .slice (some ⟨q, 0, none⟩) 32 64) (by simp [results, Tryd.results57, go_sem]) rfl ⟨rfl, rfl⟩
  · rw [if_neg hi]
    have t1 : (i.tmod 2 == 0) = false := by simp [hi]
    clear hi
    go_enter Tryd.func57, Tryd.ntmps57
    go_wp2_with (fail)
    exact bodyPost_ret (v := .slice (some ⟨q, 32, none⟩) 32 32) (by simp [results, Tryd.results57, go_sem]) rfl ⟨rfl, rfl⟩
theorem len_walk (T : Nat → Prop) (s kb fb : Nat) (S : Sto) (w : World) (hs : IsSt w T s kb fb S) :
    Calls Tryd.prog 29 #[.pointer (some ⟨s, 0, none⟩)] w fun e w' => e = .returned (.int .i64 S.pres.length) ∧ w = w' := by
  obtain ⟨pb, av, sv, ho⟩ := hs.own
  have k0 := ho.box.k0
  have hl : ∀ ty, (Builtin.len_ #[114] ty #[.map (some pb)]).run Tryd.prog w = .ok (.int .i64 S.pres.length) w := fun ty => ho.pres.len undMP
  clear ho hs
  go_enter Tryd.func29, Tryd.ntmps29
  go_wp2_with (fail)
  exact bodyPost_ret (v := .int .i64 S.pres.length) (by simp [results, Tryd.results29, go_sem]) rfl ⟨rfl, rfl⟩
end Wt
end Go.Proofs.YtdmffnjbholkkaaDoor
namespace Go.Proofs.YtdmffnjbholkkaaDoor
open Go.RowKit
set_option linter.unusedVariables false
set_option linter.unusedSimpArgs false
section
variable {P : Program}
theorem wp_delete {o : Oper} {a : Act} {w : World} {K : Act → World → Prop} {Q : Exit → Act → World → Prop} (m x : Operand) (t t2 : TypeId) (ho : o.op = .call { callee := .builtin .delete, args := #[m, x], argTypes := #[t, t2] }) (vm vx : Value) (hm : a.eval m = vm) (hx : a.eval x = vx)
    (w' : World) (hr : (Builtin.delete_ #[t, t2] o.type #[vm, vx]).run P w = .ok (.tuple #[]) w') (h : K (a.put o.dst (.tuple #[])) w') : Oper.wp P o a w K Q := by
  unfold Oper.wp
  simp [execOp, ho, resolve, invoke, builtin, hm, hx, hr, Result.andThen]
  exact h
end
namespace Wt
open Kc Mk
theorem drop_none {β : Type} {M : List (Hx × β)} {h : Hx} (hn : has M h = false) : dropM M h = M := by
  unfold dropM
  rw [List.filter_eq_self]
  intro p hp
  unfold has at hn
  rw [List.any_eq_false] at hn
  simpa using hn p hp
theorem drop_fin {T : Nat → Prop} {s kb fb : Nat} {S0 S1 : Sto} {w y6 : World} (hs : IsSt w T s kb fb S0) (ho : ∃ pb av sv, IsSto y6 T s kb S1 pb av sv) (hk : Kept T w y6) : IsSt y6 T s kb fb S1 :=
  ⟨ho, hs.kin.kept hk hs.n1 hs.n2, hs.n1, hs.n2, hs.lo⟩
set_option maxHeartbeats 4000000 in
set_option maxRecDepth 100000 in
theorem drop_walk (T : Nat → Prop) (s kb fb : Nat) (S : Sto) (h : Hx) (w : World) (hs : IsSt w T s kb fb S) (hT : ∀ k, T k → k < w.heap.size) :
    Calls Tryd.prog 22 #[.pointer (some ⟨s, 0, none⟩), dv h] w fun e w' => e = .returned (missV (has S.pres h)) ∧ (IsSt w' T s kb fb ⟨dropM S.pres h, S.asked⟩ ∧ Kept T w w') := by
  have z1 := zeroPre
  generalize hz : (tab 64 fun _ => bv 0#8) = zq at *
  have HZ := Lib.hid hz
  clear hz
  have HA : Hid (IsTab (w.alloc (.cells (tab 32 fun i => bv (h i)) 39)) w.heap.size 39 32 (fun i => bv (h i)) ∧ Below w.heap.size w (w.alloc (.cells (tab 32 fun i => bv (h i)) 39))) := Lib.hid ⟨IsTab.new w _ 32 _, (Below.refl _ _).alloc (Nat.le_refl _) _⟩
  have HS := Lib.hid (hs.below HA.out.2)
  have HTT := Lib.hid (And.intro hT hs)
  generalize hr : (look S.pres h).getD zp = r at *
  have HR := Lib.hid hr
  generalize hb : has S.pres h = b at *
  have HBB := Lib.hid hb
  clear hr hb hs hT
  unfold dv
  go_enter Tryd.func22, Tryd.ntmps22
  go_upto_region 3 with (fail)
  generalize (w.alloc (.cells (tab 32 fun i => bv (h i)) 39)) = y2 at *
  obtain ⟨pb, av, sv, ho⟩ := HS.out.own
  have HO2 : Hid (IsSto y2.drew T s kb S pb av sv) := Lib.hid (ho.kept (Wt.kept_drew y2) fun _ _ h => h)
  have H2 : Hid (IsTab y2.drew w.heap.size 39 32 (fun i => bv (h i)) ∧ Below w.heap.size w y2.drew) := Lib.hid ⟨HA.out.1.drew, HA.out.2.drew⟩
  have HB : Hid (∀ y, Below y2.drew.heap.size y2.drew y → (Instr.lookup 114 (.map (some pb)) (.agg (tab 32 fun i => bv (h i))) true).run Tryd.prog y = .ok (.tuple #[.agg (tab 64 fun i => bv (r i)), .bool b]) y) := Lib.hid fun y hy => HBB.out ▸ look_pv (HO2.out.pres.below hy) h r HR.out
  clear ho
  refine wp_region_og (fun y : World => Below y2.drew.heap.size y2.drew y) (.take 0 (.take 1 (.take 2 (.take 3 (.take 4 (.take 5 (.take 6 (.take 7 (.take 8 (.one 9 (.one 10 (.one 11 .done)))))))))))) (by kernel_rfl) (by kernel_rfl) (Below.refl _ _) ?_
  generalize y2.drew = y3 at *
  refine og_tk (some 11) (.pointer (some ⟨s, 0, none⟩)) rfl rfl (by go_simp) (fun _ _ => by simp [execOp, go_sem]) ?_
  simp only [Act.put, pS]
  refine og_tk (some 12) (.pointer (some ⟨s, 0, none⟩)) rfl rfl (by go_simp) (fun _ _ => by simp [execOp, go_sem]) ?_
  simp only [Act.put, pS]
  refine og_tk (some 13) (.pointer (some ⟨s, 0, none⟩)) rfl rfl (by go_simp) (fun _ _ => by simp [execOp, go_sem]) ?_
  simp only [Act.put, pS]
  refine og_ld (some 14) 114 (.tmp 13) (.pointer (some ⟨s, 0, none⟩)) (.map (some pb)) rfl rfl (by go_simp) rfl rfl (fun y hy => by have h := keep1 hy HO2.out.box.k0; simp [Instr.loadAt, go_sem, h, Tryd.underlying114]) ?_
  simp only [Act.put, pS]
  refine og_ld (some 15) 39 (.tmp 3) (.pointer (some ⟨w.heap.size, 0, none⟩)) (.agg (tab 32 fun i => bv (h i))) rfl rfl (by go_simp) rfl rfl (fun y hy => loadHb (H2.out.1.below hy)) ?_
  simp only [Act.put, pS]
  refine og_tk (some 16) (.tuple #[.agg (tab 64 fun i => bv (r i)), .bool b]) rfl rfl (by go_simp) (fun y hy => by have h := HB.out y hy; simp [execOp, go_sem, h, Result.andThen]) ?_
  simp only [Act.put, pS]
  refine og_tk (some 10) (.tuple #[.agg (tab 64 fun i => bv (r i)), .bool b]) rfl rfl (by go_simp) (fun _ _ => by simp [execOp, go_sem]) ?_
  simp only [Act.put, pS]
  refine og_tk (some 17) (.agg (tab 64 fun i => bv (r i))) rfl rfl (by go_simp) (fun _ _ => by simp [execOp, go_sem]) ?_
  simp only [Act.put, pS]
  refine og_tk (some 18) (.bool b) rfl rfl (by go_simp) (fun _ _ => by simp [execOp, go_sem]) ?_
  simp only [Act.put, pS]
  have HN : Hid (Below y3.heap.size y3 (y3.alloc (.cells zq 37)) ∧ IsTab (y3.alloc (.cells zq 37)) y3.heap.size 37 64 (fun _ => bv 0#8)) := Lib.hid ⟨(Below.refl _ _).alloc (Nat.le_refl _) _, by rw [← HZ.out]; exact IsTab.new y3 _ 64 _⟩
  refine og_f rfl (by go_simp) fun K hK => ?_
  go_simp
  refine hK _ _ (HN.out.1) ?_
  clear hK K
  generalize y3.alloc (.cells zq 37) = y4 at *
  have HSR : Hid (Below y3.heap.size y3 (y4.setRow y3.heap.size (tab 64 fun i => bv (r i)))) := Lib.hid (below_setRow HN.out.1 (Nat.le_refl _) _)
  refine og_f rfl (by go_simp) fun K hK => ?_
  refine wp_store_row 37 (.tmp 5) (.tmp 17) rfl y3.heap.size (tab 64 fun i => bv (r i)) rfl rfl 37 _ HN.out.2 (infPre _) (by rw [tab_size, tab_size]) (one_bv _ _) ?_
  refine hK _ _ HSR.out ?_
  clear hK K
  simp only [Act.put, pS]
  generalize y4.setRow y3.heap.size (tab 64 fun i => bv (r i)) = y5 at *
  refine og_f rfl (by go_simp) fun K hK => ?_
  go_simp
  refine hK _ _ HSR.out ?_
  clear hK K
  refine og_done (NoPanic.normal ?_)
  have H5 : Hid (IsTab y5 w.heap.size 39 32 (fun i => bv (h i)) ∧ Below w.heap.size w y5) := Lib.hid ⟨H2.out.1.below HSR.out, bl H2.out.2 HSR.out⟩
  have HO5 : Hid (IsSto y5 T s kb S pb av sv) := Lib.hid (HO2.out.kept (Kept.ofBelow (S := fun _ => False) HSR.out) fun _ _ h => h)
  clear HB H2 HO2 HN HSR HR z1
  generalize y3.heap.size = q2 at *
  cases b
  · have HE : Hid (IsSt y5 T s kb fb ⟨dropM S.pres h, S.asked⟩ ∧ Kept T w y5) := Lib.hid ⟨by rw [drop_none HBB.out]; exact HTT.out.2.below H5.out.2, Kept.ofBelow H5.out.2⟩
    go_wp2_with (fail)
    exact bodyPost_ret (v := missV false) (by simp [results, Tryd.results22, go_sem, missV]) rfl ⟨rfl, HE.out⟩
  · go_upto_region 6 with (fail)
    have HO6 : Hid (IsSto y5.drew T s kb S pb av sv) := Lib.hid (HO5.out.kept (Wt.kept_drew y5) fun _ _ h => h)
    have H6 : Hid (IsTab y5.drew w.heap.size 39 32 (fun i => bv (h i)) ∧ Below w.heap.size w y5.drew) := Lib.hid ⟨H5.out.1.drew, H5.out.2.drew⟩
    obtain ⟨w4, hr4, hm4, hk4, hs4⟩ := IsMp.del (ty := 0) HO6.out.pres undMP h
    unfold dv at hr4
    have HR4 := Lib.hid hr4
    have HE : Hid (IsSt w4 T s kb fb ⟨dropM S.pres h, S.asked⟩ ∧ Kept T w w4) := by
      have ho := HO6.out
      have hK : Kept T w w4 := (Kept.ofBelow H6.out.2).trans hk4 fun k _ e => (show T k from by rw [e]; exact ho.tp)
      refine Lib.hid ⟨drop_fin HTT.out.2 ⟨pb, av, sv, ?_⟩ hK, hK⟩
      refine ⟨ho.box.kept hk4 (map_ne ho.box ho.pres), hm4, hk4.row ho.row fun k e ek => by subst ek; exact map_row ho.row ho.pres e, ho.seen.imp id fun ⟨qb, h1, h2, h3, h4⟩ => ⟨qb, h1, h2, h3, h4.kept hk4 h2⟩, ho.ts, ho.tp, ho.ta⟩
    have HKW := Lib.hid hk4
    have HNE : Hid (s ≠ pb ∧ w.heap.size ≠ pb) := Lib.hid ⟨map_ne HO6.out.box HO6.out.pres, map_ne H6.out.1 HO6.out.pres⟩
    clear hr4 hm4 hk4 hs4
    refine wp_region_og (fun y : World => Kept (· = pb) y5.drew y) (.take 0 (.take 1 (.take 2 (.take 3 (.take 4 (.one 5 .done)))))) (by kernel_rfl) (by kernel_rfl) (Kept.refl _ _) ?_
    generalize y5.drew = y6 at *
    refine og_tk (some 22) (.pointer (some ⟨s, 0, none⟩)) rfl rfl (by go_simp) (fun _ _ => by simp [execOp, go_sem]) ?_
    simp only [Act.put, pS]
    refine og_tk (some 23) (.pointer (some ⟨s, 0, none⟩)) rfl rfl (by go_simp) (fun _ _ => by simp [execOp, go_sem]) ?_
    simp only [Act.put, pS]
    refine og_tk (some 24) (.pointer (some ⟨s, 0, none⟩)) rfl rfl (by go_simp) (fun _ _ => by simp [execOp, go_sem]) ?_
    simp only [Act.put, pS]
    refine og_ld (some 25) 114 (.tmp 24) (.pointer (some ⟨s, 0, none⟩)) (.map (some pb)) rfl rfl (by go_simp) rfl rfl (fun y hy => by have h := hy.cell HNE.out.1 HO6.out.box.k0; simp [Instr.loadAt, go_sem, h, Tryd.underlying114]) ?_
    simp only [Act.put, pS]
    refine og_ld (some 26) 39 (.tmp 3) (.pointer (some ⟨w.heap.size, 0, none⟩)) (.agg (tab 32 fun i => bv (h i))) rfl rfl (by go_simp) rfl rfl (fun y hy => loadHb (Wt.IsTab.kept H6.out.1 hy HNE.out.2)) ?_
    simp only [Act.put, pS]
    refine og_f rfl (by go_simp) fun K hK => ?_
    refine wp_delete (.tmp 25) (.tmp 26) 114 39 rfl _ _ rfl rfl w4 HR4.out ?_
    refine hK _ _ HKW.out ?_
    clear hK K
    try simp only [Act.put, pS]
    refine og_done (NoPanic.normal ?_)
    go_wp2_with (fail)
    exact bodyPost_ret (v := missV true) (by simp [results, Tryd.results22, go_sem, missV]) rfl ⟨rfl, HE.out⟩
theorem asked_row {w : World} {T : Nat → Prop} {s kb pb : Nat} {S : Sto} {av : Value} {sv : Option Nat} (h : IsSto w T s kb S pb av sv) :
    IsSto ((w.setCell ⟨s, 1, none⟩ (.slice none 0 0)).setCell ⟨s, 2, none⟩ (.map none)) T s kb ⟨S.pres, []⟩ pb (.slice none 0 0) none ∧ Kept (fun k => k = s) w ((w.setCell ⟨s, 1, none⟩ (.slice none 0 0)).setCell ⟨s, 2, none⟩ (.map none)) := by
  have hk : Kept (fun k => k = s) w ((w.setCell ⟨s, 1, none⟩ (.slice none 0 0)).setCell ⟨s, 2, none⟩ (.map none)) := ((Kept.refl (fun k => k = s) _).setCell (.inl rfl) _).setCell (.inl rfl) _
  exact ⟨⟨(h.box.p1 _).p2 _, h.pres.kept hk (fun e => map_ne h.box h.pres e.symm), ⟨rfl, .inl ⟨rfl, rfl⟩⟩, .inl ⟨rfl, rfl⟩, h.ts, h.tp, fun k e => by cases e⟩, hk⟩
theorem asked_walk (T : Nat → Prop) (s kb fb : Nat) (S : Sto) (w : World) (hs : IsSt w T s kb fb S) :
    Calls Tryd.prog 27 #[.pointer (some ⟨s, 0, none⟩)] w fun e w' => ∃ av, e = .returned av ∧ w'.ownsRow 0 39 32 av S.asked.length (fl S.asked) ∧ (∀ k, av.ownBlock = some k → T k ∧ k ≠ s) ∧ IsSt w' T s kb fb ⟨S.pres, []⟩ ∧ Kept (fun k => k = s) w w' := by
  obtain ⟨pb, av, sv, ho⟩ := hs.own
  have HO := Lib.hid ho
  have HS := Lib.hid hs
  have HAR := Lib.hid (asked_row ho)
  obtain ⟨a, n, c, rfl⟩ := own_slice ho.row
  have k1 := ho.box.k1
  have k2 := ho.box.k2
  have f1 := ho.box.f 1
  have f2 := ho.box.f 2
  clear ho hs
  go_enter Tryd.func27, Tryd.ntmps27
  go_wp2_with (fail)
  have hk := HAR.out.2
  exact bodyPost_ret (v := .slice a n c) (by simp [results, Tryd.results27, go_sem]) rfl ⟨_, rfl, hk.row HO.out.row (fun k e => (HO.out.ta k e).2), HO.out.ta, ⟨⟨_, _, _, HAR.out.1⟩, HS.out.kin.kept hk (fun e => HS.out.n1 (by rw [e]; exact HO.out.ts)) (fun e => HS.out.n2 (by rw [e]; exact HO.out.ts)), HS.out.n1, HS.out.n2, HS.out.lo⟩, hk⟩
end Wt
end Go.Proofs.YtdmffnjbholkkaaDoor
