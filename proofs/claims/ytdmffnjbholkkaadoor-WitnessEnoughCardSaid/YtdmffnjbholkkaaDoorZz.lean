/- Merged. Own work. -/
import Derived.Test.YtdmffnjbholkkaaDoorZv
namespace Go.Proofs.YtdmffnjbholkkaaDoor
open Go.RowKit
set_option linter.unusedVariables false
set_option linter.unusedSimpArgs false
set_option linter.unusedVariables false
set_option linter.unusedSimpArgs false
namespace Wt
open Kc Mk
def rangeE : Value := .iface 62 (.int .i64 2)
/-- Is there such a leaf? -/
def place (d i : Int) : Prop := 0 ≤ d ∧ d ≤ 16 ∧ 0 ≤ i ∧ i < 2 ^ d.toNat
set_option maxHeartbeats 1000000 in
set_option maxRecDepth 100000 in
theorem way_r1 (s : Nat) (d i : Int) (h : Hx) (w : World) (h1 : d < 0) : Calls Tryd.prog 55 #[.pointer (some ⟨s, 0, none⟩), .int .i64 d, dv h, .int .i64 i] w fun e w' => e = .returned (.tuple #[dv fun _ => 0#8, .slice none 0 0, rangeE]) ∧ Below w.heap.size w w' := by
  have t1 : decide (d < 0) = true := by simp; omega
  clear h1
  have z1 := zeroHash
  generalize hz : (tab 32 fun _ => bv 0#8) = zh at *
  have HZ := Lib.hid hz
  have HA : Hid (IsTab ((w.alloc (.cells (tab 32 fun i => bv (h i)) 39)).alloc (.cells zh 39)) (w.heap.size + 1) 39 32 (fun _ => bv 0#8) ∧ Below w.heap.size w ((w.alloc (.cells (tab 32 fun i => bv (h i)) 39)).alloc (.cells zh 39))) := by
    refine Lib.hid ⟨?_, ((Below.refl _ _).alloc (Nat.le_refl _) _).alloc (by simp) _⟩
    rw [← hz]
    have := IsTab.new (w.alloc (.cells (tab 32 fun i => bv (h i)) 39)) 39 32 fun _ => bv 0#8
    simpa using this
  clear hz
  have HI : Hid ((Tryd.prog.info? 39).map (·.size) = some zh.size) := Lib.hid (by rw [← HZ.out]; exact infH _)
  have HBH : Hid (∀ u : World, (Instr.build 39 #[]).run Tryd.prog u = .ok (.agg zh) u) := Lib.hid (fun u => by rw [← HZ.out]; exact buildZh u)
  unfold dv
  go_enter Tryd.func55, Tryd.ntmps55
  go_upto_region 1 with (fail)
  generalize ((w.alloc (.cells (tab 32 fun i => bv (h i)) 39)).alloc (.cells zh 39)) = y0 at *
  go_wp2_with (first
    | ((with_reducible refine Wt.wpList_buildM (P := Tryd.prog) (w := y0) ?_ 39 ?_ (.agg zh) (HBH.out y0) ?_); (· exact rfl); (· exact rfl))
    | ((with_reducible refine wpList_store_row (P := Tryd.prog) (w := y0) ?_ 39 (.tmp 8) (.tmp 36) ?_ (w.heap.size + 1) zh ?_ ?_ 39 (tab 32 fun _ => bv 0#8) ?_ HI.out ?_ ?_ ?_); (· exact rfl); (· exact rfl); (· exact rfl); (· exact rfl); (· exact HA.out.1); (· rw [← HZ.out]); (· rw [← HZ.out]; exact one_bv _ _)))
  rw [← HZ.out]
  have hr : IsTab (y0.setRow (w.heap.size + 1) (tab 32 fun _ => bv 0#8)) (w.heap.size + 1) 39 32 fun _ => bv 0#8 := HA.out.1.row
  exact bodyPost_ret (results_cell_tmp2 rfl _ _ (w.heap.size + 1) 39 _ (0, 0) _ rfl hr undH rfl (infH _) (.slice none 0 0) rangeE rfl rfl) rfl ⟨rfl, below_setRow HA.out.2 (by omega) _⟩
set_option maxHeartbeats 1000000 in
set_option maxRecDepth 100000 in
theorem way_r2 (s : Nat) (d i : Int) (h : Hx) (w : World) (h1 : 16 < d) : Calls Tryd.prog 55 #[.pointer (some ⟨s, 0, none⟩), .int .i64 d, dv h, .int .i64 i] w fun e w' => e = .returned (.tuple #[dv fun _ => 0#8, .slice none 0 0, rangeE]) ∧ Below w.heap.size w w' := by
  have t1 : decide (d < 0) = false := by simp; omega
  have t2 : decide (16 < d) = true := by simp; omega
  clear h1
  have z1 := zeroHash
  generalize hz : (tab 32 fun _ => bv 0#8) = zh at *
  have HZ := Lib.hid hz
  have HA : Hid (IsTab ((w.alloc (.cells (tab 32 fun i => bv (h i)) 39)).alloc (.cells zh 39)) (w.heap.size + 1) 39 32 (fun _ => bv 0#8) ∧ Below w.heap.size w ((w.alloc (.cells (tab 32 fun i => bv (h i)) 39)).alloc (.cells zh 39))) := by
    refine Lib.hid ⟨?_, ((Below.refl _ _).alloc (Nat.le_refl _) _).alloc (by simp) _⟩
    rw [← hz]
    have := IsTab.new (w.alloc (.cells (tab 32 fun i => bv (h i)) 39)) 39 32 fun _ => bv 0#8
    simpa using this
  clear hz
  have HI : Hid ((Tryd.prog.info? 39).map (·.size) = some zh.size) := Lib.hid (by rw [← HZ.out]; exact infH _)
  have HBH : Hid (∀ u : World, (Instr.build 39 #[]).run Tryd.prog u = .ok (.agg zh) u) := Lib.hid (fun u => by rw [← HZ.out]; exact buildZh u)
  unfold dv
  go_enter Tryd.func55, Tryd.ntmps55
  go_upto_region 1 with (fail)
  generalize ((w.alloc (.cells (tab 32 fun i => bv (h i)) 39)).alloc (.cells zh 39)) = y0 at *
  go_wp2_with (first
    | ((with_reducible refine Wt.wpList_buildM (P := Tryd.prog) (w := y0) ?_ 39 ?_ (.agg zh) (HBH.out y0) ?_); (· exact rfl); (· exact rfl))
    | ((with_reducible refine wpList_store_row (P := Tryd.prog) (w := y0) ?_ 39 (.tmp 8) (.tmp 36) ?_ (w.heap.size + 1) zh ?_ ?_ 39 (tab 32 fun _ => bv 0#8) ?_ HI.out ?_ ?_ ?_); (· exact rfl); (· exact rfl); (· exact rfl); (· exact rfl); (· exact HA.out.1); (· rw [← HZ.out]); (· rw [← HZ.out]; exact one_bv _ _)))
  rw [← HZ.out]
  have hr : IsTab (y0.setRow (w.heap.size + 1) (tab 32 fun _ => bv 0#8)) (w.heap.size + 1) 39 32 fun _ => bv 0#8 := HA.out.1.row
  exact bodyPost_ret (results_cell_tmp2 rfl _ _ (w.heap.size + 1) 39 _ (0, 0) _ rfl hr undH rfl (infH _) (.slice none 0 0) rangeE rfl rfl) rfl ⟨rfl, below_setRow HA.out.2 (by omega) _⟩
set_option maxHeartbeats 1000000 in
set_option maxRecDepth 100000 in
theorem way_r3 (s : Nat) (d i : Int) (h : Hx) (w : World) (h1 : 0 ≤ d ∧ d ≤ 16) (h2 : i < 0) : Calls Tryd.prog 55 #[.pointer (some ⟨s, 0, none⟩), .int .i64 d, dv h, .int .i64 i] w fun e w' => e = .returned (.tuple #[dv fun _ => 0#8, .slice none 0 0, rangeE]) ∧ Below w.heap.size w w' := by
  have t1 : decide (d < 0) = false := by simp; omega
  have t2 : decide (16 < d) = false := by simp; omega
  have t3 : decide (i < 0) = true := by simp; omega
  clear h1 h2
  have z1 := zeroHash
  generalize hz : (tab 32 fun _ => bv 0#8) = zh at *
  have HZ := Lib.hid hz
  have HA : Hid (IsTab ((w.alloc (.cells (tab 32 fun i => bv (h i)) 39)).alloc (.cells zh 39)) (w.heap.size + 1) 39 32 (fun _ => bv 0#8) ∧ Below w.heap.size w ((w.alloc (.cells (tab 32 fun i => bv (h i)) 39)).alloc (.cells zh 39))) := by
    refine Lib.hid ⟨?_, ((Below.refl _ _).alloc (Nat.le_refl _) _).alloc (by simp) _⟩
    rw [← hz]
    have := IsTab.new (w.alloc (.cells (tab 32 fun i => bv (h i)) 39)) 39 32 fun _ => bv 0#8
    simpa using this
  clear hz
  have HI : Hid ((Tryd.prog.info? 39).map (·.size) = some zh.size) := Lib.hid (by rw [← HZ.out]; exact infH _)
  have HBH : Hid (∀ u : World, (Instr.build 39 #[]).run Tryd.prog u = .ok (.agg zh) u) := Lib.hid (fun u => by rw [← HZ.out]; exact buildZh u)
  unfold dv
  go_enter Tryd.func55, Tryd.ntmps55
  go_upto_region 1 with (fail)
  generalize ((w.alloc (.cells (tab 32 fun i => bv (h i)) 39)).alloc (.cells zh 39)) = y0 at *
  go_wp2_with (first
    | ((with_reducible refine Wt.wpList_buildM (P := Tryd.prog) (w := y0) ?_ 39 ?_ (.agg zh) (HBH.out y0) ?_); (· exact rfl); (· exact rfl))
    | ((with_reducible refine wpList_store_row (P := Tryd.prog) (w := y0) ?_ 39 (.tmp 8) (.tmp 36) ?_ (w.heap.size + 1) zh ?_ ?_ 39 (tab 32 fun _ => bv 0#8) ?_ HI.out ?_ ?_ ?_); (· exact rfl); (· exact rfl); (· exact rfl); (· exact rfl); (· exact HA.out.1); (· rw [← HZ.out]); (· rw [← HZ.out]; exact one_bv _ _)))
  rw [← HZ.out]
  have hr : IsTab (y0.setRow (w.heap.size + 1) (tab 32 fun _ => bv 0#8)) (w.heap.size + 1) 39 32 fun _ => bv 0#8 := HA.out.1.row
  exact bodyPost_ret (results_cell_tmp2 rfl _ _ (w.heap.size + 1) 39 _ (0, 0) _ rfl hr undH rfl (infH _) (.slice none 0 0) rangeE rfl rfl) rfl ⟨rfl, below_setRow HA.out.2 (by omega) _⟩
set_option maxHeartbeats 1000000 in
set_option maxRecDepth 100000 in
theorem way_r4 (s : Nat) (d i : Int) (h : Hx) (w : World) (n : Nat) (hd : d = n) (h1 : n ≤ 16) (h2 : 0 ≤ i) (h3 : 2 ^ n ≤ i) : Calls Tryd.prog 55 #[.pointer (some ⟨s, 0, none⟩), .int .i64 d, dv h, .int .i64 i] w fun e w' => e = .returned (.tuple #[dv fun _ => 0#8, .slice none 0 0, rangeE]) ∧ Below w.heap.size w w' := by
  subst hd
  have t1 : decide ((n : Int) < 0) = false := by simp
  have t2 : decide (16 < (n : Int)) = false := by simp; omega
  have t3 : decide (i < 0) = false := by simp; omega
  have t5 : decide (wrap64 ((2 : Int) ^ n) ≤ i) = true := by
    have h8 : (2 : Nat) ^ n ≤ 2 ^ 16 := Nat.pow_le_pow_right (by decide) h1
    have h9 : (2 : Nat) ^ n ≤ 65536 := h8
    rw [decide_eq_true_iff]
    rw [show ((2 : Int) ^ n) = ((2 ^ n : Nat) : Int) from (Int.natCast_pow 2 n).symm] at h3 ⊢
    generalize (2 : Nat) ^ n = q at *
    unfold wrap64
    omega
  clear h2 h3
  have z1 := zeroHash
  generalize hz : (tab 32 fun _ => bv 0#8) = zh at *
  have HZ := Lib.hid hz
  have HA : Hid (IsTab ((w.alloc (.cells (tab 32 fun i => bv (h i)) 39)).alloc (.cells zh 39)) (w.heap.size + 1) 39 32 (fun _ => bv 0#8) ∧ Below w.heap.size w ((w.alloc (.cells (tab 32 fun i => bv (h i)) 39)).alloc (.cells zh 39))) := by
    refine Lib.hid ⟨?_, ((Below.refl _ _).alloc (Nat.le_refl _) _).alloc (by simp) _⟩
    rw [← hz]
    have := IsTab.new (w.alloc (.cells (tab 32 fun i => bv (h i)) 39)) 39 32 fun _ => bv 0#8
    simpa using this
  clear hz
  have HI : Hid ((Tryd.prog.info? 39).map (·.size) = some zh.size) := Lib.hid (by rw [← HZ.out]; exact infH _)
  have HBH : Hid (∀ u : World, (Instr.build 39 #[]).run Tryd.prog u = .ok (.agg zh) u) := Lib.hid (fun u => by rw [← HZ.out]; exact buildZh u)
  unfold dv
  go_enter Tryd.func55, Tryd.ntmps55
  go_upto_region 1 with (fail)
  generalize ((w.alloc (.cells (tab 32 fun i => bv (h i)) 39)).alloc (.cells zh 39)) = y0 at *
  go_wp2_with (first
    | ((with_reducible refine Wt.wpList_buildM (P := Tryd.prog) (w := y0) ?_ 39 ?_ (.agg zh) (HBH.out y0) ?_); (· exact rfl); (· exact rfl))
    | ((with_reducible refine wpList_store_row (P := Tryd.prog) (w := y0) ?_ 39 (.tmp 8) (.tmp 36) ?_ (w.heap.size + 1) zh ?_ ?_ 39 (tab 32 fun _ => bv 0#8) ?_ HI.out ?_ ?_ ?_); (· exact rfl); (· exact rfl); (· exact rfl); (· exact rfl); (· exact HA.out.1); (· rw [← HZ.out]); (· rw [← HZ.out]; exact one_bv _ _)))
  rw [← HZ.out]
  have hr : IsTab (y0.setRow (w.heap.size + 1) (tab 32 fun _ => bv 0#8)) (w.heap.size + 1) 39 32 fun _ => bv 0#8 := HA.out.1.row
  exact bodyPost_ret (results_cell_tmp2 rfl _ _ (w.heap.size + 1) 39 _ (0, 0) _ rfl hr undH rfl (infH _) (.slice none 0 0) rangeE rfl rfl) rfl ⟨rfl, below_setRow HA.out.2 (by omega) _⟩
theorem way_range (s : Nat) (d i : Int) (h : Hx) (w : World) (hp : ¬ place d i) : Calls Tryd.prog 55 #[.pointer (some ⟨s, 0, none⟩), .int .i64 d, dv h, .int .i64 i] w fun e w' => e = .returned (.tuple #[dv fun _ => 0#8, .slice none 0 0, rangeE]) ∧ Below w.heap.size w w' := by
  by_cases h1 : d < 0
  · exact way_r1 s d i h w h1
  by_cases h2 : 16 < d
  · exact way_r2 s d i h w h2
  by_cases h3 : i < 0
  · exact way_r3 s d i h w ⟨by omega, by omega⟩ h3
  refine way_r4 s d i h w d.toNat (by omega) (by omega) (by omega) ?_
  unfold place at hp
  omega
theorem read_range (s : Nat) (d i : Int) (h : Hx) (w : World) (hp : ¬ place d i) : Calls Tryd.prog 24 #[.pointer (some ⟨s, 0, none⟩), .int .i64 d, dv h, .int .i64 i] w fun e w' => e = .returned (.tuple #[dv fun _ => 0#8, rangeE]) ∧ Below w.heap.size w w' := by
  refine read_by d i (.pointer (some ⟨s, 0, none⟩)) h (fun _ => 0#8) (.slice none 0 0) rangeE (Below w.heap.size w) w (fun y z => Below y.heap.size y z ∧ y.heap.size = w.heap.size + 2) (fun y _ hy => ?_) (fun y z hr => ⟨hr.1.size, hr.1.block _ (by have := hr.2; omega)⟩) fun y z u h1 h2 h3 h4 => below_of (bl h1 h3.1) h4 fun j _ hj => by omega
  refine (way_range s d i h y hp).mono ?_
  rintro e w' ⟨he, hb⟩
  exact ⟨he, hb, hy⟩
set_option maxHeartbeats 4000000 in
set_option maxRecDepth 100000 in
/-- Write answers what the way is refused for. -/
theorem write_err (depth i : Int) (sp : Value) (h l : Hx) (Z : World → TypeId → Value → Prop) (w : World) (Rr : World → World → TypeId → Value → Prop)
    (hC : ∀ y, Below w.heap.size w y → y.heap.size = w.heap.size + 3 → Calls Tryd.prog 55 #[sp, .int .i64 depth, dv h, .int .i64 i] y fun e w' => ∃ x V t v, e = .returned (.tuple #[dv x, V, .iface t v]) ∧ Rr y w' t v)
    (hR : ∀ y z t v, Rr y z t v → y.heap.size ≤ z.heap.size ∧ z.heap[w.heap.size + 2]? = y.heap[w.heap.size + 2]?)
    (hZ : ∀ y z u t v, Below w.heap.size w y → y.heap.size = w.heap.size + 3 → Rr y z t v → Kept (fun k => k = w.heap.size + 2) z u → Z u t v) :
    Calls Tryd.prog 26 #[sp, .int .i64 depth, dv h, .int .i64 i, dv l] w fun e w' => ∃ t v, e = .returned (.tuple #[dv fun _ => 0#8, .iface t v]) ∧ Z w' t v := by
  have z1 := zeroHash
  generalize hz : (tab 32 fun _ => bv 0#8) = zh at *
  have HZ := Lib.hid hz
  have HA : Hid (IsTab (((w.alloc (.cells (tab 32 fun i => bv (h i)) 39)).alloc (.cells (tab 32 fun i => bv (l i)) 39)).alloc (.cells zh 39)) w.heap.size 39 32 (fun i => bv (h i)) ∧ IsTab (((w.alloc (.cells (tab 32 fun i => bv (h i)) 39)).alloc (.cells (tab 32 fun i => bv (l i)) 39)).alloc (.cells zh 39)) (w.heap.size + 1) 39 32 (fun i => bv (l i)) ∧ IsTab (((w.alloc (.cells (tab 32 fun i => bv (h i)) 39)).alloc (.cells (tab 32 fun i => bv (l i)) 39)).alloc (.cells zh 39)) (w.heap.size + 2) 39 32 (fun _ => bv 0#8) ∧ Below w.heap.size w (((w.alloc (.cells (tab 32 fun i => bv (h i)) 39)).alloc (.cells (tab 32 fun i => bv (l i)) 39)).alloc (.cells zh 39)) ∧ (((w.alloc (.cells (tab 32 fun i => bv (h i)) 39)).alloc (.cells (tab 32 fun i => bv (l i)) 39)).alloc (.cells zh 39)).heap.size = w.heap.size + 3) := by
    refine Lib.hid ⟨((IsTab.new w _ 32 _).alloc _).alloc _, ?_, ?_, (((Below.refl _ _).alloc (Nat.le_refl _) _).alloc (by simp) _).alloc (by simp; omega) _, by simp⟩
    · have := (IsTab.new (w.alloc (.cells (tab 32 fun i => bv (h i)) 39)) 39 32 fun i => bv (l i)).alloc (.cells zh 39)
      simpa using this
    · rw [← hz]
      have := IsTab.new ((w.alloc (.cells (tab 32 fun i => bv (h i)) 39)).alloc (.cells (tab 32 fun i => bv (l i)) 39)) 39 32 fun _ => bv 0#8
      simpa using this
  clear hz
  have HI : Hid ((Tryd.prog.info? 39).map (·.size) = some zh.size) := Lib.hid (by rw [← HZ.out]; exact infH _)
  have HZZ := Lib.hid (And.intro hR hZ)
  have HCC := Lib.hid hC
  clear hR hZ hC
  have HBH : Hid (∀ u : World, (Instr.build 39 #[]).run Tryd.prog u = .ok (.agg zh) u) := Lib.hid (fun u => by rw [← HZ.out]; exact buildZh u)
  unfold dv
  go_enter Tryd.func26, Tryd.ntmps26
  go_upto_region 1 with (fail)
  generalize (((w.alloc (.cells (tab 32 fun i => bv (h i)) 39)).alloc (.cells (tab 32 fun i => bv (l i)) 39)).alloc (.cells zh 39)) = y0 at *
  have hc := HCC.out y0 HA.out.2.2.2.1 HA.out.2.2.2.2
  unfold dv at hc
  have HC := Lib.hid hc
  have HLH := Lib.hid (loadHb HA.out.1)
  clear hc
  go_upto_region 2 with (first
    | ((with_reducible refine wpList_loadE (P := Tryd.prog) (w := y0) (ty := 39) (x := .tmp 7) (p := .pointer (some ⟨w.heap.size, 0, none⟩)) (v := .agg (tab 32 fun i => bv (h i))) ?_ ?_ ?_ HLH.out ?_); (· exact rfl); (· exact rfl); (· exact rfl))
    | (go_at_call 55; (with_reducible refine HC.out.mono ?_); rintro e y2 ⟨x, V, t, v, he, hst⟩; (try unfold dv at he); obtain rfl : e = _ := he; have HS2 := Lib.hid hst; clear hst)
    | ((with_reducible refine wpList_store_row (P := Tryd.prog) (w := y2.alloc (.cells zh 39)) ?_ 39 (.tmp 12) (.tmp 24) ?_ y2.heap.size (tab 32 fun i => bv (x i)) ?_ ?_ 39 zh (heap_alloc_last y2 _) (infH _) ?_ (one_bv _ _) ?_); (· exact rfl); (· exact rfl); (· exact rfl); (· exact rfl); (· rw [← HZ.out] <;> rw [tab_size, tab_size]); rw [World.setRow_alloc_new]; simp only [Act.put]))
  have H3 : Hid (IsTab (y2.alloc (.cells (tab 32 fun i => bv (x i)) 39)) (w.heap.size + 2) 39 32 (fun _ => bv 0#8) ∧ Kept (fun k => k = w.heap.size + 2) y2 (y2.alloc (.cells (tab 32 fun i => bv (x i)) 39))) := Lib.hid ⟨IsTab.alloc (show y2.heap[w.heap.size + 2]? = _ from (HZZ.out.1 _ _ _ _ HS2.out).2.trans HA.out.2.2.1) _, (Kept.refl _ _).alloc _⟩
  generalize y2.alloc (.cells (tab 32 fun i => bv (x i)) 39) = y3 at *
  generalize hq : y2.heap.size = q2 at *
  go_wp2_with (first
    | ((with_reducible refine Wt.wpList_buildM (P := Tryd.prog) (w := y3) ?_ 39 ?_ (.agg zh) (HBH.out y3) ?_); (· exact rfl); (· exact rfl))
    | ((with_reducible refine wpList_store_row (P := Tryd.prog) (w := y3) ?_ 39 (.tmp 10) (.tmp 29) ?_ (w.heap.size + 2) zh ?_ ?_ 39 (tab 32 fun _ => bv 0#8) ?_ HI.out ?_ ?_ ?_); (· exact rfl); (· exact rfl); (· exact rfl); (· exact rfl); (· exact H3.out.1); (· rw [← HZ.out]); (· rw [← HZ.out]; exact one_bv _ _)))
  rw [← HZ.out]
  have hr : IsTab (y3.setRow (w.heap.size + 2) (tab 32 fun _ => bv 0#8)) (w.heap.size + 2) 39 32 fun _ => bv 0#8 := H3.out.1.row
  have hk : Kept (fun k => k = w.heap.size + 2) y3 (y3.setRow (w.heap.size + 2) (tab 32 fun _ => bv 0#8)) := ⟨by simp, by simp, by simp, by simp, fun k _ hk => setRow_other _ _ _ _ hk⟩
  exact bodyPost_ret (Kc.results_cell_tmp rfl _ _ (w.heap.size + 2) 39 _ (0, 0) _ rfl hr undH rfl (infH _) (.iface t v) rfl) rfl ⟨t, v, rfl, HZZ.out.2 _ _ _ _ _ HA.out.2.2.2.1 HA.out.2.2.2.2 HS2.out (H3.out.2.trans hk fun _ _ h => h)⟩
theorem write_range (s : Nat) (d i : Int) (h l : Hx) (w : World) (hp : ¬ place d i) : Calls Tryd.prog 26 #[.pointer (some ⟨s, 0, none⟩), .int .i64 d, dv h, .int .i64 i, dv l] w fun e w' => e = .returned (.tuple #[dv fun _ => 0#8, rangeE]) ∧ Below w.heap.size w w' := by
  refine (write_err d i (.pointer (some ⟨s, 0, none⟩)) h l (fun u t v => Value.iface t v = rangeE ∧ Below w.heap.size w u) w (fun y z t v => Value.iface t v = rangeE ∧ Below y.heap.size y z ∧ y.heap.size = w.heap.size + 3) (fun y _ hy => ?_) (fun y z t v hr => ⟨hr.2.1.size, hr.2.1.block _ (by have := hr.2.2; omega)⟩) fun y z u t v h1 h2 h3 h4 => ⟨h3.1, below_of (bl h1 h3.2.1) h4 fun j _ hj => by omega⟩).mono ?_
  · refine (way_range s d i h y hp).mono ?_
    rintro e w' ⟨he, hb⟩
    exact ⟨_, _, _, _, he, rfl, hb, hy⟩
  · rintro e w' ⟨t, v, he, h1, h2⟩
    rw [h1] at he
    exact ⟨he, h2⟩
theorem write_miss (T : Nat → Prop) (s kb fb : Nat) (M : List (Hx × Px)) (A : List Hx) (d i k : Nat) (hh : Nat → Hx) (l : Hx) (w : World) (hs : IsSt w T s kb fb ⟨M, A⟩) (hT : ∀ j, T j → j < w.heap.size) (hn : A.length + 17 < 1073741824) (hd : d ≤ 16) (hi : i < 2 ^ d) (hk : k < d)
    (hstep : ∀ j, j < k → ∀ x, x < 32 → hh (j + 1) x = px M hh j (32 * (i / 2 ^ (d - 1 - j) % 2) + x)) (hhas : ∀ j, j < k → has M (hh j) = true) (hend : has M (hh k) = false) :
    Calls Tryd.prog 26 #[.pointer (some ⟨s, 0, none⟩), .int .i64 d, dv (hh 0), .int .i64 i, dv l] w fun e w' => ∃ x E, e = .returned (.tuple #[dv x, E]) ∧ ∃ T', RdEnd w T s kb fb M A d k hh x E T' w' := by
  refine (write_err d i (.pointer (some ⟨s, 0, none⟩)) (hh 0) l (fun u t v => ∃ T', RdEnd w T s kb fb M A d k hh (fun _ => 0#8) (.iface t v) T' u) w (fun y z t v => y.heap.size = w.heap.size + 3 ∧ ∃ x V T', WyEnd y T s kb fb M A d k hh x V (.iface t v) T' z) (fun y hb hy => ?_) (fun y z t v hr => ?_) fun y z u t v hb hy hr hk4 => ?_).mono ?_
  · refine (way_walk T s kb fb M A d i k hh y (hs.below hb) (fun j hj => Nat.lt_of_lt_of_le (hT j hj) hb.size) hn hd hi (by omega) hstep hhas (.inr hend)).mono ?_
    rintro e w' ⟨x, V, E, he, T', h⟩
    obtain ⟨_, _, q, hE, _⟩ := h.miss hk
    subst hE
    exact ⟨x, V, _, _, he, hy, x, V, T', h⟩
  · obtain ⟨hy, x, V, T', h⟩ := hr
    exact ⟨h.kp.size, h.kp.block _ (by omega) fun e => by have := hT _ e; omega⟩
  · obtain ⟨_, x, V, T', h⟩ := hr
    have hl := hs.kin.lt
    have hz := h.kp.size
    have hn1 : ¬ T' (w.heap.size + 2) := fun e => by
      rcases (h.tt _ e).1 with e | e
      · have := hT _ e; omega
      · omega
    refine ⟨T', h.st.kept hk4 (fun j hj e => hn1 (e ▸ hj)) (by omega) (by omega), fun j hj => ⟨(h.tt j hj).1.imp id fun e => by omega, Nat.lt_of_lt_of_le (h.tt j hj).2 hk4.size⟩,
      ((Kept.ofBelow hb).trans h.kp fun _ _ h => h).trans hk4 fun j hlt e => by omega, fun e => absurd hk (by omega), fun e => ?_⟩
    obtain ⟨h1, _, q, h3, h4, h5, h6, h7⟩ := h.miss e
    exact ⟨rfl, q, h3, keptC hk4 (by omega) h4, keptC hk4 (by omega) h5, h6, by omega⟩
  · rintro e w' ⟨t, v, he, h⟩
    exact ⟨_, _, he, h⟩
/-- A preimage with one half laid anew. -/
def wput (p : Px) (b : Nat) (h : Hx) : Px := fun x => if 32 * b ≤ x ∧ x < 32 * b + 32 then h (x - 32 * b) else p x
/-- The digests from a leaf on up. -/
def wleaf (f : Nat → Px) (d i : Nat) (leaf : Hx) : Nat → Hx
  | 0 => leaf
  | j + 1 => hs (wput (f (d - 1 - j)) (i / 2 ^ j % 2) (wleaf f d i leaf j))
/-- The preimage that is added at a height. -/
def wpre (f : Nat → Px) (d i : Nat) (leaf : Hx) (j : Nat) : Px := wput (f (d - 1 - j)) (i / 2 ^ j % 2) (wleaf f d i leaf j)
/-- The preimages behind some additions. -/
def wpres (M : List (Hx × Px)) (f : Nat → Px) (d i : Nat) (leaf : Hx) : Nat → List (Hx × Px)
  | 0 => M
  | j + 1 => putM (wpres M f d i leaf j) (hs (wpre f d i leaf j)) (wpre f d i leaf j)
theorem wleaf_succ (f : Nat → Px) (d i : Nat) (leaf : Hx) (j : Nat) : wleaf f d i leaf (j + 1) = hs (wpre f d i leaf j) := by rw [wleaf, wpre]
theorem wpres_succ (M : List (Hx × Px)) (f : Nat → Px) (d i : Nat) (leaf : Hx) (j : Nat) : wpres M f d i leaf (j + 1) = putM (wpres M f d i leaf j) (hs (wpre f d i leaf j)) (wpre f d i leaf j) := by rw [wpres]
theorem wleaf_zero (f : Nat → Px) (d i : Nat) (leaf : Hx) : wleaf f d i leaf 0 = leaf := by rw [wleaf]
theorem wpres_zero (M : List (Hx × Px)) (f : Nat → Px) (d i : Nat) (leaf : Hx) : wpres M f d i leaf 0 = M := by rw [wpres]
theorem add_walk' (T : Nat → Prop) (s kb fb : Nat) (M : List (Hx × Px)) (A : List Hx) (p : Px) (w : World) (ht : Laid.KTab w) (h : IsSt w T s kb fb ⟨M, A⟩) (hT : ∀ k, T k → k < w.heap.size) :
    Calls Tryd.prog 17 #[.pointer (some ⟨s, 0, none⟩), pv p] w fun e w' => e = .returned (.tuple #[dv (hs p), .nilIface]) ∧ IsSt w' T s kb fb ⟨putM M (hs p) p, A⟩ ∧ Kept (Foot T kb fb) w w' := add_walk T s kb fb ⟨M, A⟩ p w ht h hT
theorem meas_dn {i k : Nat} (h : i + 1 ≤ k) : k - (i + 1) < k - i := by omega
theorem meas_lp {i k : Nat} (h : i + 1 ≤ k) (hw : wrap64 ((i : Int) + 1) = ((i + 1 : Nat) : Int)) : k - (intOf (.int .i64 (wrap64 ((i : Int) + 1)))).toNat < k - (intOf (.int .i64 (i : Int))).toNat := by
  rw [hw]
  show k - (i + 1) < k - i
  exact meas_dn h
theorem row_pre {w : World} {B n : Nat} {V : Value} {f : Nat → Px} (h : w.ownsRow B 37 64 V n (flp n f)) (hn : 0 < n) :
    ∃ g c, V = .slice (some ⟨g, 0, none⟩) n c ∧ V.ownBlock = some g ∧ ∀ j, j < n → ∀ x, x < 64 → w.cell? ⟨g, 64 * j + x, none⟩ = some (bv (f j x)) := by
  rcases h.2 with ⟨rfl, e⟩ | ⟨g, cap, cur, rfl, hg, hc, hnc, hm, hs, ht⟩
  · have := flp_len n f
    rw [e] at this
    simp at this
    omega
  · refine ⟨g, cap, rfl, rfl, fun j hj x hx => ?_⟩
    have hi : 64 * j + x < 64 * n := by omega
    have e1 : (cur.toList.take (n * 64))[64 * j + x]? = (flp n f)[64 * j + x]? := by rw [ht]
    rw [List.getElem?_take, if_pos (by omega)] at e1
    have e2 : (flp n f)[64 * j + x]? = some (bv (f j x)) := by
      unfold flp
      simp [hi, show (64 * j + x) / 64 = j from by omega, show (64 * j + x) % 64 = x from by omega]
    rw [e2] at e1
    rw [cell_of_row w g (64 * j + x) _ _ _ hc]
    simpa using e1
theorem loadPm {w : World} {g o : Nat} {p : Px} (h : ∀ x, x < 64 → w.cell? ⟨g, o + x, none⟩ = some (bv (p x))) : (Instr.loadAt 37 (.pointer (some ⟨g, o, none⟩))).run Tryd.prog w = .ok (.agg (tab 64 fun i => bv (p i))) w := by
  refine run_loadAt_mid w g o _ ((List.range 64).map fun i => bv (p i)) _ (fun j v hv => ?_) undPre rfl (by rw [List.length_map, List.length_range]; exact infPre')
  obtain ⟨hj, rfl⟩ := List.getElem?_eq_some_iff.1 hv
  simp only [List.length_map, List.length_range] at hj
  simpa using h j hj
/-- What Write's loop keeps. -/
structure Ww (W : World) (T : Nat → Prop) (s kb fb : Nat) (S : Sto) (q10 q15 B d : Nat) (h : Hx) (f : Nat → Px) (V : Value) (T' : Nat → Prop) (y : World) : Prop where
  st : IsSt y T' s kb fb S
  tt : ∀ k, T' k → (T k ∨ W.heap.size ≤ k) ∧ k < y.heap.size ∧ k ≠ q10 ∧ k ≠ q15
  hc : IsTab y q15 39 32 fun i => bv (h i)
  rc : IsTab y q10 39 32 fun _ => bv 0#8
  row : y.ownsRow B 37 64 V d (flp d f)
  vt : ∀ k, V.ownBlock = some k → ¬ T' k ∧ k ≠ q15 ∧ k ≠ q10
  kp : Kept (Foot T kb fb) W y
  kt : Laid.KTab W
  lo : ∀ k, T k → lowB ≤ k
  o : W.heap.size ≤ B ∧ W.heap.size ≤ q10 ∧ W.heap.size ≤ q15 ∧ q10 ≠ q15
  kl : kb < W.heap.size ∧ fb < W.heap.size
section
variable {W y y' : World} {T T' : Nat → Prop} {s kb fb q10 q15 B d : Nat} {S S' : Sto} {h h' : Hx} {f : Nat → Px} {V : Value}
theorem Ww.next (H : Ww W T s kb fb S q10 q15 B d h f V T' y) (hb : Below y.heap.size y y') : Ww W T s kb fb S q10 q15 B d h f V T' y' :=
  ⟨H.st.below hb, fun k hk => ⟨(H.tt k hk).1, Nat.lt_of_lt_of_le (H.tt k hk).2.1 hb.size, (H.tt k hk).2.2⟩, H.hc.below hb, H.rc.below hb, (Kept.ofBelow (S := fun _ => False) hb).row H.row (fun _ _ h => h), H.vt,
    H.kp.trans (Kept.ofBelow hb) fun _ _ h => h, H.kt, H.lo, H.o, H.kl⟩
theorem Ww.ktab (H : Ww W T s kb fb S q10 q15 B d h f V T' y) : Laid.KTab y :=
  ktab_kept H.kt H.kp fun j hj => .inr (by
    rcases hj with hj | hj | hj
    · exact H.lo j hj
    · rw [hj]; exact H.st.lo kb (.inr (.inl rfl))
    · rw [hj]; exact H.st.lo fb (.inr (.inr rfl)))
/-- Behind an Add. -/
theorem Ww.added (H : Ww W T s kb fb S q10 q15 B d h f V T' y) (hs : IsSt y' T' s kb fb S') (hk : Kept (Foot T' kb fb) y y') : Ww W T s kb fb S' q10 q15 B d h f V T' y' := by
  have hz := hk.size
  have ho := H.o
  have hl := H.kl
  have hn : ∀ q, W.heap.size ≤ q → ¬ T' q → ¬ Foot T' kb fb q := fun q h1 h2 h3 => by
    rcases h3 with h3 | h3 | h3
    · exact h2 h3
    · omega
    · omega
  refine ⟨hs, fun k hk' => ⟨(H.tt k hk').1, Nat.lt_of_lt_of_le (H.tt k hk').2.1 hz, (H.tt k hk').2.2⟩, Wt.IsTab.kept H.hc hk (hn _ ho.2.2.1 fun e => (H.tt _ e).2.2.2 rfl), Wt.IsTab.kept H.rc hk (hn _ ho.2.1 fun e => (H.tt _ e).2.2.1 rfl),
    hk.row H.row fun k e h3 => hn k (Nat.le_trans ho.1 (owns_base H.row e)) (H.vt k e).1 h3, H.vt, H.kp.trans hk fun k hlt h3 => ?_, H.kt, H.lo, H.o, H.kl⟩
  rcases h3 with h3 | h3 | h3
  · exact .inl ((H.tt k h3).1.elim id fun h => absurd h (by omega))
  · exact .inr (.inl h3)
  · exact .inr (.inr h3)
/-- Behind the store of a digest. -/
theorem Ww.set (H : Ww W T s kb fb S q10 q15 B d h f V T' y) (h' : Hx) : Ww W T s kb fb S q10 q15 B d h' f V T' (y.setRow q15 (tab 32 fun i => bv (h' i))) := by
  have hk : Kept (fun k => k = q15) y (y.setRow q15 (tab 32 fun i => bv (h' i))) := ⟨by simp, by simp, by simp, by simp, fun k _ hk => setRow_other _ _ _ _ hk⟩
  have ho := H.o
  have hl := H.kl
  have hr : IsTab (y.setRow q15 (tab 32 fun i => bv (h' i))) q15 39 32 fun i => bv (h' i) := H.hc.row
  exact ⟨H.st.kept hk (fun k hk e => (H.tt k hk).2.2.2 e) (by omega) (by omega), fun k hk' => ⟨(H.tt k hk').1, Nat.lt_of_lt_of_le (H.tt k hk').2.1 hk.size, (H.tt k hk').2.2⟩, hr, Wt.IsTab.kept H.rc hk ho.2.2.2, hk.row H.row fun k e h3 => (H.vt k e).2.1 h3, H.vt,
    H.kp.trans hk fun k hlt e => by omega, H.kt, H.lo, H.o, H.kl⟩
end
/-- Behind a write to a block of its own. -/
theorem Ww.other {W y y' : World} {T T' : Nat → Prop} {s kb fb q10 q15 B d q : Nat} {S : Sto} {h : Hx} {f : Nat → Px} {V : Value} (H : Ww W T s kb fb S q10 q15 B d h f V T' y) (h1 : W.heap.size ≤ q) (h2 : ¬ T' q) (h3 : q10 ≠ q) (h4 : q15 ≠ q) (h5 : ∀ k, V.ownBlock = some k → k ≠ q) (hk : Kept (fun k => k = q) y y') : Ww W T s kb fb S q10 q15 B d h f V T' y' := by
  have hl := H.kl
  exact ⟨H.st.kept hk (fun k hk e => h2 (e ▸ hk)) (by omega) (by omega), fun k hk' => ⟨(H.tt k hk').1, Nat.lt_of_lt_of_le (H.tt k hk').2.1 hk.size, (H.tt k hk').2.2⟩, Wt.IsTab.kept H.hc hk h4, Wt.IsTab.kept H.rc hk h3, hk.row H.row h5, H.vt,
    H.kp.trans hk fun k hlt e => by omega, H.kt, H.lo, H.o, H.kl⟩
/-- What Write leaves. -/
structure WtEnd (W : World) (T : Nat → Prop) (s kb fb : Nat) (S : Sto) (T' : Nat → Prop) (y : World) : Prop where
  st : IsSt y T' s kb fb S
  tt : ∀ j, T' j → (T j ∨ W.heap.size ≤ j) ∧ j < y.heap.size
  kp : Kept (Foot T kb fb) W y
set_option maxHeartbeats 4000000 in
set_option maxRecDepth 100000 in
theorem write_walk (T : Nat → Prop) (s kb fb : Nat) (M : List (Hx × Px)) (A : List Hx) (d i : Nat) (hh : Nat → Hx) (l : Hx) (w : World) (hg : Laid.KTab w) (hs : IsSt w T s kb fb ⟨M, A⟩) (hT : ∀ j, T j → j < w.heap.size) (hn : A.length + 17 < 1073741824) (hd : d ≤ 16) (hi : i < 2 ^ d)
    (hstep : ∀ j, j < d → ∀ x, x < 32 → hh (j + 1) x = px M hh j (32 * (i / 2 ^ (d - 1 - j) % 2) + x)) (hhas : ∀ j, j < d → has M (hh j) = true) :
    Calls Tryd.prog 26 #[.pointer (some ⟨s, 0, none⟩), .int .i64 d, dv (hh 0), .int .i64 i, dv l] w fun e w' => e = .returned (.tuple #[dv (wleaf (px M hh) d i l d), .nilIface]) ∧ ∃ T', WtEnd w T s kb fb ⟨wpres M (px M hh) d i l d, askN A hh d⟩ T' w' := by
  have HCC : Hid (∀ y, Below w.heap.size w y → y.heap.size = w.heap.size + 3 → Calls Tryd.prog 55 #[.pointer (some ⟨s, 0, none⟩), .int .i64 d, dv (hh 0), .int .i64 i] y fun e w' => ∃ x V, e = .returned (.tuple #[dv x, V, .nilIface]) ∧ ∃ T', WyEnd y T s kb fb M A d d hh x V .nilIface T' w') := Lib.hid fun y hb hy => by
    refine (way_walk T s kb fb M A d i d hh y (hs.below hb) (fun j hj => Nat.lt_of_lt_of_le (hT j hj) hb.size) hn hd hi (Nat.le_refl _) hstep hhas (.inl rfl)).mono ?_
    rintro e w' ⟨x, V, E, he, T', h⟩
    obtain ⟨_, hE, _⟩ := h.hit rfl
    subst hE
    exact ⟨x, V, he, T', h⟩
  have HW := Lib.hid (And.intro hg (And.intro hs (And.intro hT (And.intro hd hi))))
  clear hg hs hT hn hd hi hstep hhas
  generalize hh0 : hh 0 = h at *
  have zp1 := zeroPre
  generalize hzp : (tab 64 fun _ => bv 0#8) = zq at *
  have HZQ := Lib.hid hzp
  clear hzp
  have z1 := zeroHash
  generalize hz : (tab 32 fun _ => bv 0#8) = zh at *
  have HZ := Lib.hid hz
  have HA : Hid (IsTab (((w.alloc (.cells (tab 32 fun i => bv (h i)) 39)).alloc (.cells (tab 32 fun i => bv (l i)) 39)).alloc (.cells zh 39)) w.heap.size 39 32 (fun i => bv (h i)) ∧ IsTab (((w.alloc (.cells (tab 32 fun i => bv (h i)) 39)).alloc (.cells (tab 32 fun i => bv (l i)) 39)).alloc (.cells zh 39)) (w.heap.size + 1) 39 32 (fun i => bv (l i)) ∧ IsTab (((w.alloc (.cells (tab 32 fun i => bv (h i)) 39)).alloc (.cells (tab 32 fun i => bv (l i)) 39)).alloc (.cells zh 39)) (w.heap.size + 2) 39 32 (fun _ => bv 0#8) ∧ Below w.heap.size w (((w.alloc (.cells (tab 32 fun i => bv (h i)) 39)).alloc (.cells (tab 32 fun i => bv (l i)) 39)).alloc (.cells zh 39)) ∧ (((w.alloc (.cells (tab 32 fun i => bv (h i)) 39)).alloc (.cells (tab 32 fun i => bv (l i)) 39)).alloc (.cells zh 39)).heap.size = w.heap.size + 3) := by
    refine Lib.hid ⟨((IsTab.new w _ 32 _).alloc _).alloc _, ?_, ?_, (((Below.refl _ _).alloc (Nat.le_refl _) _).alloc (by simp) _).alloc (by simp; omega) _, by simp⟩
    · have := (IsTab.new (w.alloc (.cells (tab 32 fun i => bv (h i)) 39)) 39 32 fun i => bv (l i)).alloc (.cells zh 39)
      simpa using this
    · rw [← hz]
      have := IsTab.new ((w.alloc (.cells (tab 32 fun i => bv (h i)) 39)).alloc (.cells (tab 32 fun i => bv (l i)) 39)) 39 32 fun _ => bv 0#8
      simpa using this
  clear hz
  have HI : Hid ((Tryd.prog.info? 39).map (·.size) = some zh.size) := Lib.hid (by rw [← HZ.out]; exact infH _)
  unfold dv
  go_enter Tryd.func26, Tryd.ntmps26
  go_upto_region 1 with (fail)
  generalize (((w.alloc (.cells (tab 32 fun i => bv (h i)) 39)).alloc (.cells (tab 32 fun i => bv (l i)) 39)).alloc (.cells zh 39)) = y0 at *
  have hc := HCC.out y0 HA.out.2.2.2.1 HA.out.2.2.2.2
  unfold dv at hc
  have HC := Lib.hid hc
  have HLH := Lib.hid (loadHb HA.out.1)
  clear hc
  go_upto_region 2 with (first
    | ((with_reducible refine wpList_loadE (P := Tryd.prog) (w := y0) (ty := 39) (x := .tmp 7) (p := .pointer (some ⟨w.heap.size, 0, none⟩)) (v := .agg (tab 32 fun i => bv (h i))) ?_ ?_ ?_ HLH.out ?_); (· exact rfl); (· exact rfl); (· exact rfl))
    | (go_at_call 55; (with_reducible refine HC.out.mono ?_); rintro e y2 ⟨x, V, he, T1, hst⟩; (try unfold dv at he); obtain rfl : e = _ := he; have HS2 := Lib.hid hst; clear hst)
    | ((with_reducible refine wpList_store_row (P := Tryd.prog) (w := y2.alloc (.cells zh 39)) ?_ 39 (.tmp 12) (.tmp 24) ?_ y2.heap.size (tab 32 fun i => bv (x i)) ?_ ?_ 39 zh (heap_alloc_last y2 _) (infH _) ?_ (one_bv _ _) ?_); (· exact rfl); (· exact rfl); (· exact rfl); (· exact rfl); (· rw [← HZ.out] <;> rw [tab_size, tab_size]); rw [World.setRow_alloc_new]; simp only [Act.put]))
  have HN1 : Hid (∀ q, w.heap.size ≤ q → q < w.heap.size + 3 → ¬ T1 q) := Lib.hid fun q h1 h2 h3 => by
    have hz := HA.out.2.2.2.2
    rcases (HS2.out.tt q h3).1 with h4 | h4
    · have := HW.out.2.2.1 q h4; omega
    · omega
  have HNT : Hid (∀ q, w.heap.size ≤ q → ¬ T q) := Lib.hid fun q h1 h2 => by have := HW.out.2.2.1 q h2; omega
  have H3 : Hid (IsTab (y2.alloc (.cells (tab 32 fun i => bv (x i)) 39)) (w.heap.size + 1) 39 32 (fun i => bv (l i)) ∧ IsTab (y2.alloc (.cells (tab 32 fun i => bv (x i)) 39)) (w.heap.size + 2) 39 32 (fun _ => bv 0#8) ∧ Below y2.heap.size y2 (y2.alloc (.cells (tab 32 fun i => bv (x i)) 39))) := by
    have hz := HA.out.2.2.2.2
    exact Lib.hid ⟨(Wt.IsTab.kept HA.out.2.1 HS2.out.kp (HNT.out _ (by omega))).alloc _, (Wt.IsTab.kept HA.out.2.2.1 HS2.out.kp (HNT.out _ (by omega))).alloc _, ba _ _⟩
  generalize y2.alloc (.cells (tab 32 fun i => bv (x i)) 39) = y3 at *
  have HLL := Lib.hid (loadHb H3.out.1)
  go_upto_region 5 with (first
    | ((with_reducible refine wpList_loadE (P := Tryd.prog) (w := y3) (ty := 39) (x := .tmp 9) (p := .pointer (some ⟨w.heap.size + 1, 0, none⟩)) (v := .agg (tab 32 fun i => bv (l i))) ?_ ?_ ?_ HLL.out ?_); (· exact rfl); (· exact rfl); (· exact rfl))
    | ((with_reducible refine wpList_store_row (P := Tryd.prog) (w := y3.alloc (.cells zh 39)) ?_ 39 (.tmp 15) (.tmp 31) ?_ y3.heap.size (tab 32 fun i => bv (l i)) ?_ ?_ 39 zh (heap_alloc_last y3 _) (infH _) ?_ (one_bv _ _) ?_); (· exact rfl); (· exact rfl); (· exact rfl); (· exact rfl); (· rw [← HZ.out] <;> rw [tab_size, tab_size]); rw [World.setRow_alloc_new]; simp only [Act.put]))
  have H0 : Hid (∃ T', Ww w T s kb fb ⟨wpres M (px M hh) d i l 0, askN A hh d⟩ (w.heap.size + 2) y3.heap.size w.heap.size d (wleaf (px M hh) d i l 0) (px M hh) V T' (y3.alloc (.cells (tab 32 fun i => bv (l i)) 39))) := by
    have hz := HA.out.2.2.2.2
    have hz2 := HS2.out.kp.size
    have hz3 := H3.out.2.2.size
    have hl := HW.out.2.1.kin.lt
    obtain ⟨_, _, hrow, hvt⟩ := HS2.out.hit rfl
    have hrow' := row_base hrow (B' := w.heap.size) (by omega)
    have hb3 : Below y2.heap.size y2 (y3.alloc (.cells (tab 32 fun i => bv (l i)) 39)) := bl H3.out.2.2 (ba _ _)
    have hst : IsSt y2 T1 s kb fb ⟨M, askN A hh d⟩ := by have h := HS2.out.st; rw [if_neg (by omega)] at h; exact h
    rw [wpres_zero, wleaf_zero]
    refine Lib.hid ⟨T1, hst.below hb3, fun k hk => ?_, IsTab.new y3 _ 32 _, H3.out.2.1.alloc _, (Kept.ofBelow (S := fun _ => False) hb3).row hrow' (fun _ _ h => h), fun k e => ?_, ((Kept.ofBelow HA.out.2.2.2.1).trans HS2.out.kp fun k hlt h => .inl h).trans (Kept.ofBelow hb3) fun _ _ h => h, HW.out.1, fun k hk => HW.out.2.1.lo k (.inl hk), by omega, hl⟩
    · have h1 := HS2.out.tt k hk
      have hb := hb3.size
      exact ⟨h1.1.imp id fun h => by omega, by omega, fun e => HN1.out k (by omega) (by omega) hk, by omega⟩
    · have h1 := own_lt hrow e
      have h2 := owns_base hrow e
      exact ⟨hvt k e, by omega, by omega⟩
  clear H3 HLL HS2 HN1 HNT
  generalize y3.alloc (.cells (tab 32 fun i => bv (l i)) 39) = y4 at *
  generalize y3.heap.size = q15 at *
  have HQ10 : Hid (w.heap.size + 2 = w.heap.size + 2) := Lib.hid rfl
  generalize w.heap.size + 2 = q10 at *
  go_wp2_with (fail)
  go_loopw [33] (fun tc y => ∃ j : Nat, j ≤ d ∧ tc = .int .i64 j ∧ Hid (∃ T', Ww w T s kb fb ⟨wpres M (px M hh) d i l j, askN A hh d⟩ q10 q15 w.heap.size d (wleaf (px M hh) d i l j) (px M hh) V T' y)) (fun tc _ => d - (intOf tc).toNat)
  case atStart => exact ⟨0, Nat.zero_le _, rfl, H0⟩
  case round =>
    obtain ⟨j, hj, rfl, hp⟩ := hrel
    obtain ⟨T2, hp⟩ := hp.out
    have HP := Lib.hid hp
    clear hp H0
    by_cases hlt : j < d
    · have t1 : decide (j < d) = true := by simp; omega
      obtain ⟨g, cp, hV, hO, hcells⟩ := row_pre HP.out.row (by omega)
      subst hV
      obtain ⟨d1, c, o, b, hf1, hf2, hf3, hb, hc, ho⟩ : ∃ d1 c o b : Nat, wrap64 ((d : Int) - 1) = (d1 : Int) ∧ wrap64 ((d1 : Int) - (j : Int)) = (c : Int) ∧ Op.shift .shr .i64 (i : Int) .i64 (j : Int) = pure (.int .i64 (b : Int)) ∧ b = i / 2 ^ j ∧ c = d - 1 - j ∧ o = 64 * c := by
        have h1 := HW.out.2.2.2.1
        refine ⟨d - 1, d - 1 - j, 64 * (d - 1 - j), i / 2 ^ j, by unfold wrap64; omega, by unfold wrap64; omega, ?_, rfl, rfl, rfl⟩
        rw [shift_shr_i64 (yk := .i64) (x := (i : Int)) (y := (j : Int)) (by omega) (by omega), Int.toNat_natCast, show ((2 : Int) ^ j) = ((2 ^ j : Nat) : Int) from (Int.natCast_pow 2 _).symm, ← Int.natCast_ediv]
      have HF := Lib.hid (And.intro hf3 (And.intro hb (And.intro hc (And.intro ho (And.intro hlt hO)))))
      have HLP := Lib.hid (loadPm (w := wr) (g := g) (o := o) (p := px M hh c) fun x hx => by rw [HF.out.2.2.2.1]; exact hcells c (by have := HF.out.2.2.1; omega) x hx)
      have hcd : (c : Int) < (d : Int) := by omega
      have hoo : c * 64 = o := by omega
      clear hcells hlt hb hc ho hf3 hO
      go_upto_region 9 with (first
        | ((with_reducible refine wpList_loadE (P := Tryd.prog) (w := wr) (ty := 37) (x := .tmp 41) (p := .pointer (some ⟨g, o, none⟩)) (v := .agg (tab 64 fun i => bv (px M hh c i))) ?_ ?_ ?_ HLP.out ?_); (· exact rfl); (· exact rfl); (· exact rfl))
        | ((with_reducible refine wpList_store_row (P := Tryd.prog) (w := wr.alloc (.cells zq 37)) ?_ 37 (.tmp 17) (.tmp 42) ?_ wr.heap.size (tab 64 fun i => bv (px M hh c i)) ?_ ?_ 37 zq (heap_alloc_last wr _) (infPre _) ?_ (one_bv _ _) ?_); (· exact rfl); (· exact rfl); (· exact rfl); (· exact rfl); (· rw [← HZQ.out] <;> rw [tab_size, tab_size]); rw [World.setRow_alloc_new]; simp only [Act.put]))
      have H5 : Hid (Ww w T s kb fb ⟨wpres M (px M hh) d i l j, askN A hh d⟩ q10 q15 w.heap.size d (wleaf (px M hh) d i l j) (px M hh) (.slice (some ⟨g, 0, none⟩) d cp) T2 (wr.alloc (.cells (tab 64 fun i => bv (px M hh c i)) 37)) ∧ IsTab (wr.alloc (.cells (tab 64 fun i => bv (px M hh c i)) 37)) wr.heap.size 37 64 (fun i => bv (px M hh c i)) ∧ w.heap.size ≤ wr.heap.size ∧ ¬ T2 wr.heap.size ∧ q10 ≠ wr.heap.size ∧ q15 ≠ wr.heap.size ∧ ∀ k, (Value.slice (some ⟨g, 0, none⟩) d cp).ownBlock = some k → k ≠ wr.heap.size) := by
        have h10 := HP.out.rc.lt
        have h15 := HP.out.hc.lt
        exact Lib.hid ⟨HP.out.next (ba _ _), IsTab.new wr _ 64 _, HP.out.kp.size, fun e => by have := (HP.out.tt _ e).2.1; omega, by omega, by omega, fun k e => by have := own_lt HP.out.row e; omega⟩
      clear HP HLP t1 hcd hoo hf1 hf2
      generalize wr.alloc (.cells (tab 64 fun i => bv (px M hh c i)) 37) = y5 at *
      generalize wr.heap.size = q17 at *
      have H5 := Lib.hid (And.intro (H5.out.1.next (Below.refl _ _).drew) (And.intro H5.out.2.1.drew H5.out.2.2))
      refine wp_region_og (fun _ : World => True) (.take 0 (.take 1 (.take 2 (.take 4 (.one 3 (.one 5 .done)))))) (by kernel_rfl) (by kernel_rfl) (trivial) ?_
      generalize y5.drew = y6 at *
      refine og_tk (some 43) (.int .i64 i) rfl rfl (by go_simp) (fun _ _ => by simp [execOp, go_sem]) ?_
      simp only [Act.put, pS]
      refine og_tk (some 44) (.int .i64 j) rfl rfl (by go_simp) (fun _ _ => by simp [execOp, go_sem]) ?_
      simp only [Act.put, pS]
      refine og_tk (some 45) (.int .i64 (b : Int)) rfl rfl (by go_simp) (fun y hy => by have h := HF.out.1; simp [execOp, go_sem, h]) ?_
      simp only [Act.put, pS]
      refine og_tk (some 47) (.slice (some ⟨q15, 0, none⟩) 32 32) rfl rfl (by go_simp) (fun y hy => by have h := slHA q15 y; simp [execOp, go_sem, h, Result.andThen]) ?_
      simp only [Act.put, pS]
      refine og_f rfl (by go_simp) fun K hK => ?_
      go_simp
      refine (side_any q17 b _).mono ?_
      rintro e y9 ⟨he, hw⟩
      obtain rfl : e = _ := he
      subst hw
      refine hK _ _ trivial ?_
      clear hK K
      try simp only [Act.put, pS]
      refine og_f rfl (by go_simp) fun K hK => ?_
      refine wp_copy_tab (.tmp 46) (.tmp 47) 127 127 rfl 5 und22 size8 q17 (32 * (b % 2)) 32 (64 - 32 * (b % 2)) ⟨q15, 0, none⟩ 32 32 rfl rfl 37 64 (fun i => bv (px M hh c i)) H5.out.2.1 32 rfl (fun x => bv (wleaf (px M hh) d i l j x)) (fun x hx => by rw [add_at, Nat.zero_add]; exact H5.out.1.hc.cell x hx) (by omega) (fun _ => rfl) ?_
      refine hK _ _ trivial ?_
      clear hK K
      try simp only [Act.put, pS]
      refine og_done (NoPanic.normal ?_)
      have hwp : wput (px M hh c) (b % 2) (wleaf (px M hh) d i l j) = wpre (px M hh) d i l j := by rw [HF.out.2.2.1, HF.out.2.1]; rfl
      have H7 : Hid (Ww w T s kb fb ⟨wpres M (px M hh) d i l j, askN A hh d⟩ q10 q15 w.heap.size d (wleaf (px M hh) d i l j) (px M hh) (.slice (some ⟨g, 0, none⟩) d cp) T2 (y6.setRow q17 (tab 64 (splv (fun i => bv (px M hh c i)) (32 * (b % 2)) 32 fun x => bv (wleaf (px M hh) d i l j x)))) ∧ IsTab (y6.setRow q17 (tab 64 (splv (fun i => bv (px M hh c i)) (32 * (b % 2)) 32 fun x => bv (wleaf (px M hh) d i l j x)))) q17 37 64 (fun x => bv (wpre (px M hh) d i l j x))) := by
        have hk : Kept (fun k => k = q17) y6 (y6.setRow q17 (tab 64 (splv (fun i => bv (px M hh c i)) (32 * (b % 2)) 32 fun x => bv (wleaf (px M hh) d i l j x)))) := ⟨by simp, by simp, by simp, by simp, fun k _ hk => setRow_other _ _ _ _ hk⟩
        obtain ⟨a1, a2, a3, a4, a5, a6, a7⟩ := H5.out
        refine Lib.hid ⟨a1.other a3 a4 a5 a6 a7 hk, (IsTab.row (f := fun i => bv (px M hh c i)) a2).cong fun x hx => ?_⟩
        rw [← hwp]
        unfold splv wput
        split <;> rfl
      clear H5 hwp
      generalize y6.setRow q17 (tab 64 (splv (fun i => bv (px M hh c i)) (32 * (b % 2)) 32 fun x => bv (wleaf (px M hh) d i l j x))) = y7 at *
      have hga := add_walk' T2 s kb fb (wpres M (px M hh) d i l j) (askN A hh d) (wpre (px M hh) d i l j) y7 H7.out.1.ktab H7.out.1.st (fun k hk => (H7.out.1.tt k hk).2.1)
      obtain ⟨hn, hhn⟩ : ∃ hn, Wt.hs (wpre (px M hh) d i l j) = hn := ⟨_, rfl⟩
      obtain ⟨pn, hpn⟩ : ∃ pn, wpre (px M hh) d i l j = pn := ⟨_, rfl⟩
      have HN := Lib.hid (And.intro hhn hpn)
      rw [hhn, hpn] at hga
      rw [hpn] at H7
      unfold dv pv at hga
      have HG := Lib.hid hga
      have HLQ := Lib.hid (loadPb H7.out.2)
      clear hga hhn hpn
      go_upto_region 11 with (first
        | ((with_reducible refine wpList_loadE (P := Tryd.prog) (w := y7) (ty := 37) (x := .tmp 17) (p := .pointer (some ⟨q17, 0, none⟩)) (v := .agg (tab 64 fun i => bv (pn i))) ?_ ?_ ?_ HLQ.out ?_); (· exact rfl); (· exact rfl); (· exact rfl))
        | (go_at_call 17; (with_reducible refine HG.out.mono ?_); rintro e y8 ⟨he, hst, hk⟩; obtain rfl : e = _ := he; have H8 := Lib.hid (H7.out.1.added hst hk); clear hst hk HG)
        | ((with_reducible refine wpList_store_row (P := Tryd.prog) (w := y8) ?_ 39 (.tmp 15) (.tmp 53) ?_ q15 (tab 32 fun x => bv (hn x)) ?_ ?_ 39 (tab 32 fun x => bv (wleaf (px M hh) d i l j x)) ?_ (infH _) ?_ (tab_one fun i => rfl) ?_); (· exact rfl); (· exact rfl); (· exact rfl); (· exact rfl); (· exact H8.out.hc); (· rw [tab_size, tab_size])))
      have H9 : Hid (Ww w T s kb fb ⟨wpres M (px M hh) d i l (j + 1), askN A hh d⟩ q10 q15 w.heap.size d (wleaf (px M hh) d i l (j + 1)) (px M hh) (.slice (some ⟨g, 0, none⟩) d cp) T2 (y8.setRow q15 (tab 32 fun x => bv (hn x)))) := by
        have h := H8.out.set hn
        have e1 : wleaf (px M hh) d i l (j + 1) = hn := (wleaf_succ _ _ _ _ _).trans HN.out.1
        have e2 : wpres M (px M hh) d i l (j + 1) = putM (wpres M (px M hh) d i l j) hn pn := by rw [wpres_succ, HN.out.1, HN.out.2]
        rw [e1, e2]
        exact Lib.hid h
      clear H8 H7 HLQ
      generalize y8.setRow q15 (tab 32 fun x => bv (hn x)) = y9 at *
      have hw1 : wrap64 ((j : Int) + 1) = ((j + 1 : Nat) : Int) := by have := HW.out.2.2.2.1; have := HF.out.2.2.2.2.1; unfold wrap64; omega
      have HW1 := Lib.hid hw1
      go_wp2_with (fail)
      go_roundw
      case rel => exact ⟨j + 1, HF.out.2.2.2.2.1, by go_num, Lib.hid ⟨T2, H9.out⟩⟩
      case measure => exact meas_lp HF.out.2.2.2.2.1 HW1.out
    · obtain rfl : j = d := by omega
      obtain ⟨hf, hhf⟩ : ∃ hf, wleaf (px M hh) j i l j = hf := ⟨_, rfl⟩
      have hpc := HP.out.hc
      rw [hhf] at hpc
      have HHF := Lib.hid hhf
      have HLF := Lib.hid (loadHb hpc)
      clear hpc hhf hlt hj
      go_wp2_with (first
        | ((with_reducible refine wpList_loadE (P := Tryd.prog) (w := wr) (ty := 39) (x := .tmp 15) (p := .pointer (some ⟨q15, 0, none⟩)) (v := .agg (tab 32 fun x => bv (hf x))) ?_ ?_ ?_ HLF.out ?_); (· exact rfl); (· exact rfl); (· exact rfl))
        | ((with_reducible refine wpList_store_row (P := Tryd.prog) (w := wr) ?_ 39 (.tmp 10) (.tmp 56) ?_ q10 (tab 32 fun x => bv (hf x)) ?_ ?_ 39 (tab 32 fun _ => bv 0#8) ?_ (infH _) ?_ (tab_one fun i => rfl) ?_); (· exact rfl); (· exact rfl); (· exact rfl); (· exact rfl); (· exact HP.out.rc); (· rw [tab_size, tab_size])))
      have hr : IsTab (wr.setRow q10 (tab 32 fun x => bv (hf x))) q10 39 32 fun x => bv (hf x) := HP.out.rc.row
      have hk : Kept (fun k => k = q10) wr (wr.setRow q10 (tab 32 fun x => bv (hf x))) := ⟨by simp, by simp, by simp, by simp, fun k _ hk => setRow_other _ _ _ _ hk⟩
      have ho := HP.out.o
      have hl := HP.out.kl
      exact bodyPost_ret (Kc.results_cell_tmp rfl _ _ q10 39 _ (0, 0) _ rfl hr undH rfl (infH _) .nilIface rfl) rfl ⟨by rw [HHF.out], T2, HP.out.st.kept hk (fun k hk e => (HP.out.tt k hk).2.2.1 e) (by omega) (by omega), fun k hk' => ⟨(HP.out.tt k hk').1, Nat.lt_of_lt_of_le (HP.out.tt k hk').2.1 hk.size⟩, HP.out.kp.trans hk fun k hlt e => by omega⟩
end Wt
end Go.Proofs.YtdmffnjbholkkaaDoor
