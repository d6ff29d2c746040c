/-
  witness.join. Own work.
-/
import Derived.Test.YtdmffnjbholkkaaDoorZb
import Derived.Outline
namespace Go.Proofs.YtdmffnjbholkkaaDoor
open Go.RowKit
set_option linter.unusedVariables false
namespace Wt
open Kc Mk
/-- Two digests as a preimage. -/
def jn (x y : Hx) : Px := fun i => if i < 32 then x i else y (i - 32)
theorem pre_jn (x y : Hx) : pre (jn x y) = both x y := by
  apply List.ext_getElem?
  intro i
  by_cases h : i < 64
  · have := both_at x y i h
    rw [List.getD_eq_getElem?_getD] at this
    have hb : (both x y)[i]? = some ((both x y).getD i 0#8) := by
      rw [List.getD_eq_getElem?_getD, List.getElem?_eq_getElem (by rw [both_len]; exact h)]; rfl
    rw [hb, both_at x y i h]
    simp [pre, h, jn]
  · rw [List.getElem?_eq_none (by rw [pre_len]; omega), List.getElem?_eq_none (by rw [both_len]; omega)]
theorem hs_jn (x y : Hx) : hs (jn x y) = pr x y := by unfold hs pr; rw [pre_jn]
theorem splv2_one (x y : Hx) : (tab 64 (splv (splv (fun _ => bv 0#8) 0 32 fun j => bv (x j)) 32 32 fun j => bv (y j))).all (·.oneCell') = true := tab_one fun i => by
  unfold splv
  split
  · rfl
  · split <;> rfl
structure Jn (W : World) (q0 q1 q2 q3 : Nat) (x y : Nat → Bt) (g : Nat → Value) (u : World) : Prop where
  sx : IsTab u q0 39 32 fun i => bv (x i)
  sy : IsTab u q1 39 32 fun i => bv (y i)
  sr : IsTab u q2 37 64 fun _ => bv 0#8
  sp : IsTab u q3 37 64 g
  n0 : q0 ≠ q3
  n1 : q1 ≠ q3
  n2 : q2 ≠ q3
  g2 : W.heap.size ≤ q2
  g3 : W.heap.size ≤ q3
  below : Below W.heap.size W u
theorem Jn.row {W u : World} {q0 q1 q2 q3 : Nat} {x y : Nat → Bt} {g : Nat → Value} (h : Jn W q0 q1 q2 q3 x y g u) (g' : Nat → Value) : Jn W q0 q1 q2 q3 x y g' (u.setRow q3 (tab 64 g')) :=
  ⟨h.sx.rowOther h.n0, h.sy.rowOther h.n1, h.sr.rowOther h.n2, h.sp.row, h.n0, h.n1, h.n2, h.g2, h.g3, below_setRow h.below h.g3 _⟩
theorem Jn.drew {W u : World} {q0 q1 q2 q3 : Nat} {x y : Nat → Bt} {g : Nat → Value} (h : Jn W q0 q1 q2 q3 x y g u) : Jn W q0 q1 q2 q3 x y g u.drew :=
  ⟨h.sx, h.sy, h.sr, h.sp, h.n0, h.n1, h.n2, h.g2, h.g3, h.below.drew⟩
set_option maxHeartbeats 8000000 in
set_option maxRecDepth 100000 in
theorem join_walk (x y : Hx) (w : World) :
    Calls Tryd.prog 47 #[dv x, dv y] w fun e w' => e = .returned (pv (jn x y)) ∧ Below w.heap.size w w' := by
  unfold dv
  have z1 := zeroPre
  generalize hz : (tab 64 fun _ => bv 0#8) = zp at *
  have HZP := Lib.hid hz
  clear hz
  go_enter Tryd.func47, Tryd.ntmps47
  go_upto_region 1 with (fail)
  have h1 : Hid (IsTab (((w.alloc (.cells (tab 32 fun i => bv (x i)) 39)).alloc (.cells (tab 32 fun i => bv (y i)) 39)).alloc (.cells zp 37)) w.heap.size 39 32 (fun i => bv (x i)) ∧
      IsTab (((w.alloc (.cells (tab 32 fun i => bv (x i)) 39)).alloc (.cells (tab 32 fun i => bv (y i)) 39)).alloc (.cells zp 37)) (w.heap.size + 1) 39 32 (fun i => bv (y i)) ∧
      IsTab (((w.alloc (.cells (tab 32 fun i => bv (x i)) 39)).alloc (.cells (tab 32 fun i => bv (y i)) 39)).alloc (.cells zp 37)) (w.heap.size + 1 + 1) 37 64 (fun _ => bv 0#8) ∧
      (((w.alloc (.cells (tab 32 fun i => bv (x i)) 39)).alloc (.cells (tab 32 fun i => bv (y i)) 39)).alloc (.cells zp 37)).heap.size = w.heap.size + 3 ∧
      Below w.heap.size w (((w.alloc (.cells (tab 32 fun i => bv (x i)) 39)).alloc (.cells (tab 32 fun i => bv (y i)) 39)).alloc (.cells zp 37))) := by
    rw [← HZP.out]
    have e1 : (w.alloc (.cells (tab 32 fun i => bv (x i)) 39)).heap.size = w.heap.size + 1 := by simp
    have e2 : ((w.alloc (.cells (tab 32 fun i => bv (x i)) 39)).alloc (.cells (tab 32 fun i => bv (y i)) 39)).heap.size = w.heap.size + 1 + 1 := by simp
    refine Lib.hid ⟨((IsTab.new w _ 32 _).alloc _).alloc _, ?_, ?_, by simp, (((Below.refl _ _).alloc (Nat.le_refl _) _).alloc (by simp) _).alloc (by simp; omega) _⟩
    · have := (IsTab.new (w.alloc (.cells (tab 32 fun i => bv (x i)) 39)) 39 32 fun i => bv (y i)).alloc (.cells (tab 64 fun _ => bv 0#8) 37)
      rw [e1] at this; exact this
    · have := IsTab.new ((w.alloc (.cells (tab 32 fun i => bv (x i)) 39)).alloc (.cells (tab 32 fun i => bv (y i)) 39)) 37 64 fun _ => bv 0#8
      rw [e2] at this; exact this
  generalize ((w.alloc (.cells (tab 32 fun i => bv (x i)) 39)).alloc (.cells (tab 32 fun i => bv (y i)) 39)).alloc (.cells zp 37) = w1 at *
  have hq : w.heap.size < w.heap.size + 1 ∧ w.heap.size + 1 < w.heap.size + 1 + 1 ∧ w.heap.size + 1 + 1 < w.heap.size + 3 := by omega
  have HQ := Lib.hid hq
  clear hq
  generalize w.heap.size + 1 + 1 = q2 at *
  generalize w.heap.size + 1 = q1 at *
  have hzl : zp.size = 64 := by rw [← HZP.out, tab_size]
  have HZL := Lib.hid hzl
  clear hzl
  have hzo : zp.all (·.oneCell') = true := by rw [← HZP.out]; exact one_bv _ _
  have HZO := Lib.hid hzo
  clear hzo
  have hzi : (Tryd.prog.info? 37).map (·.size) = some zp.size := by rw [HZL.out]; exact infPre'
  have HZI := Lib.hid hzi
  clear hzi
  go_upto_region 2 with (refine wpList_store_row rfl 37 (.tmp 5) (.tmp 6) rfl w1.heap.size zp rfl rfl 37 zp (heap_alloc_last w1 _) HZI.out rfl HZO.out ?_)
  rw [World.setRow_alloc_new]
  simp only [Act.put]
  have HR : Hid (Jn w w.heap.size q1 q2 w1.heap.size x y (fun _ => bv 0#8) (w1.alloc (.cells zp 37))) := by
    rw [← HZP.out]
    obtain ⟨a1, a2, a3, a4, a5⟩ := h1.out
    obtain ⟨b1, b2, b3⟩ := HQ.out
    exact Lib.hid ⟨a1.alloc _, a2.alloc _, a3.alloc _, IsTab.new w1 _ 64 _, by omega, by omega, by omega, by omega, by omega, a5.alloc (by omega) _⟩
  clear h1 HZP HZL HZO HZI z1 HQ
  generalize w1.alloc (.cells zp 37) = y0 at *
  generalize w1.heap.size = q3 at *
  generalize hq0 : w.heap.size = q0 at *
  have HQ0 := Lib.hid hq0
  clear hq0
  have s1 := slPreH q3
  have s2 := slHA q0
  go_still_tail 2, (by kernel_rfl)
  change wpList _ _ _ _ _ y0.drew
  refine wpList_copy_tab rfl (.tmp 7) (.tmp 8) 127 127 rfl 5 und22 size8 q3 0 32 64 ⟨q0, 0, none⟩ 32 32 rfl rfl 37 64 (fun _ => bv 0#8) HR.out.drew.sp 32 rfl (fun j => bv (x j)) (fun j hj => by rw [add_at, Nat.zero_add]; exact HR.out.sx.cell j hj) (by decide) (fun _ => rfl) ?_
  have HR2 := Lib.hid (HR.out.drew.row (splv (fun _ => bv 0#8) 0 32 fun j => bv (x j)))
  clear HR s1 s2
  generalize y0.drew.setRow q3 (tab 64 (splv (fun _ => bv 0#8) 0 32 fun j => bv (x j))) = y1 at *
  have s1 := slPreL q3
  have s2 := slHA q1
  go_upto_region 3 with (fail)
  go_still_tail 2, (by kernel_rfl)
  change wpList _ _ _ _ _ y1.drew
  refine wpList_copy_tab rfl (.tmp 10) (.tmp 11) 127 127 rfl 5 und22 size8 q3 32 32 32 ⟨q1, 0, none⟩ 32 32 rfl rfl 37 64 (splv (fun _ => bv 0#8) 0 32 fun j => bv (x j)) HR2.out.drew.sp 32 rfl (fun j => bv (y j)) (fun j hj => by rw [add_at, Nat.zero_add]; exact HR2.out.sy.cell j hj) (by decide) (fun _ => rfl) ?_
  have HR3 := Lib.hid (HR2.out.drew.row (splv (splv (fun _ => bv 0#8) 0 32 fun j => bv (x j)) 32 32 fun j => bv (y j)))
  clear HR2 s1 s2
  generalize y1.drew.setRow q3 (tab 64 (splv (splv (fun _ => bv 0#8) 0 32 fun j => bv (x j)) 32 32 fun j => bv (y j))) = y2 at *
  go_wp2_with (first
    | (refine wpList_load_row rfl 37 (.tmp 5) rfl q3 rfl 37 (tab 64 (splv (splv (fun _ => bv 0#8) 0 32 fun j => bv (x j)) 32 32 fun j => bv (y j))) (0, 0) _ HR3.out.sp undPre rfl (infPre _) ?_)
    | (refine wpList_store_row rfl 37 (.tmp 4) (.tmp 13) rfl q2 (tab 64 (splv (splv (fun _ => bv 0#8) 0 32 fun j => bv (x j)) 32 32 fun j => bv (y j))) rfl rfl 37 _ HR3.out.sr (infPre _) (by rw [tab_size, tab_size]) (splv2_one _ _) ?_))
  have hr : IsTab (World.setRow y2 q2 (tab 64 (splv (splv (fun _ => bv 0#8) 0 32 fun j => bv (x j)) 32 32 fun j => bv (y j)))) q2 37 64 (splv (splv (fun _ => bv 0#8) 0 32 fun j => bv (x j)) 32 32 fun j => bv (y j)) := HR3.out.sr.row
  have hbb := below_setRow HR3.out.below HR3.out.g2 (tab 64 (splv (splv (fun _ => bv 0#8) 0 32 fun j => bv (x j)) 32 32 fun j => bv (y j)))
  refine bodyPost_ret (results_cell_row rfl _ _ q2 37 _ (0, 0) _ rfl hr undPre rfl (infPre _)) rfl ⟨?_, hbb⟩
  congr 2
end Wt
end Go.Proofs.YtdmffnjbholkkaaDoor
