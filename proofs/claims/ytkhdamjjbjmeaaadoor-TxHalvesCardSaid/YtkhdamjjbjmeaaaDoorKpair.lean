/-
  keccak.Pair. Own work.
-/
import Derived.Test.YtkhdamjjbjmeaaaDoorKsum
namespace Go.Proofs.YtkhdamjjbjmeaaaDoor
open Go.RowKit
set_option linter.unusedVariables false
namespace Kc
/-- Two digests next to one another. -/
def both (x y : Nat → Bt) : List Bt := (List.range 32).map x ++ (List.range 32).map y
theorem both_len (x y : Nat → Bt) : (both x y).length = 64 := by simp [both]
theorem both_at (x y : Nat → Bt) (j : Nat) (hj : j < 64) : (both x y).getD j 0#8 = if j < 32 then x j else y (j - 32) := by
  unfold both
  by_cases h : j < 32
  · simp [List.getElem?_append, h]
  · simp [List.getElem?_append, h, show j - 32 < 32 from by omega]
theorem zeroPre (w : World) : (zeroValue 32).run Tryd.prog w = .ok (.agg (tab 64 fun _ => bv 0#8)) w := by kernel_rfl
theorem infPre' : (Tryd.prog.info? 32).map (·.size) = some 64 := by kernel_rfl
theorem infPre (g : Nat → Value) : (Tryd.prog.info? 32).map (·.size) = some (tab 64 g).size := by rw [tab_size]; exact infPre'
theorem lenPre : Tryd.prog.arrayLen 32 = 64 := by kernel_rfl
theorem lenH : Tryd.prog.arrayLen 24 = 32 := by kernel_rfl
theorem undPre : Tryd.prog.underlying 32 = some (.array (Tryd.prog.arrayLen 32) (Tryd.prog.elem 32)) := by kernel_rfl
theorem undH' : Tryd.prog.underlying 24 = some (.array (Tryd.prog.arrayLen 24) (Tryd.prog.elem 24)) := by kernel_rfl
theorem sizePre (w : World) : (sizeOf (Tryd.prog.elem 32)).run Tryd.prog w = .ok 1 w := by kernel_rfl
theorem sizeH (w : World) : (sizeOf (Tryd.prog.elem 24)).run Tryd.prog w = .ok 1 w := by kernel_rfl
theorem slPreH (q : Nat) (w : World) : (Instr.sliceAt 32 (.pointer (some ⟨q, 0, none⟩)) none (some (.int .i64 32)) none).run Tryd.prog w = .ok (.slice (some ⟨q, 0, none⟩) 32 64) w := by
  rw [run_sliceAt_array_h w _ ⟨q, 0, none⟩ undPre .i64 32 (by omega) (by rw [lenPre]; omega), sizePre]
  simp [slicedAt, lenPre, add_at]
theorem slPreL (q : Nat) (w : World) : (Instr.sliceAt 32 (.pointer (some ⟨q, 0, none⟩)) (some (.int .i64 32)) none none).run Tryd.prog w = .ok (.slice (some ⟨q, 32, none⟩) 32 32) w := by
  rw [run_sliceAt_array_l w _ ⟨q, 0, none⟩ undPre .i64 32 (by omega) (by rw [lenPre]; omega), sizePre]
  simp [slicedAt, lenPre, add_at]
theorem slPreA (q : Nat) (w : World) : (Instr.sliceAt 32 (.pointer (some ⟨q, 0, none⟩)) none none none).run Tryd.prog w = .ok (.slice (some ⟨q, 0, none⟩) 64 64) w := by
  rw [run_sliceAt_array_all w _ ⟨q, 0, none⟩ undPre, sizePre]
  simp [slicedAt, lenPre, add_at]
theorem slHA (q : Nat) (w : World) : (Instr.sliceAt 24 (.pointer (some ⟨q, 0, none⟩)) none none none).run Tryd.prog w = .ok (.slice (some ⟨q, 0, none⟩) 32 32) w := by
  rw [run_sliceAt_array_all w _ ⟨q, 0, none⟩ undH', sizeH]
  simp [slicedAt, lenH, add_at]
structure Pr (W : World) (q0 q1 q2 q3 : Nat) (x y : Nat → Bt) (g : Nat → Value) (u : World) : Prop where
  sx : IsTab u q0 24 32 fun i => bv (x i)
  sy : IsTab u q1 24 32 fun i => bv (y i)
  sr : IsTab u q2 24 32 fun _ => bv 0#8
  sp : IsTab u q3 32 64 g
  n0 : q0 ≠ q3
  n1 : q1 ≠ q3
  n2 : q2 ≠ q3
  g2 : W.heap.size ≤ q2
  g3 : W.heap.size ≤ q3
  below : Below W.heap.size W u
theorem Pr.row {W u : World} {q0 q1 q2 q3 : Nat} {x y : Nat → Bt} {g : Nat → Value} (h : Pr W q0 q1 q2 q3 x y g u) (g' : Nat → Value) : Pr W q0 q1 q2 q3 x y g' (u.setRow q3 (tab 64 g')) :=
  ⟨h.sx.rowOther h.n0, h.sy.rowOther h.n1, h.sr.rowOther h.n2, h.sp.row, h.n0, h.n1, h.n2, h.g2, h.g3, below_setRow h.below h.g3 _⟩
theorem Pr.drew {W u : World} {q0 q1 q2 q3 : Nat} {x y : Nat → Bt} {g : Nat → Value} (h : Pr W q0 q1 q2 q3 x y g u) : Pr W q0 q1 q2 q3 x y g u.drew :=
  ⟨h.sx, h.sy, h.sr, h.sp, h.n0, h.n1, h.n2, h.g2, h.g3, h.below.drew⟩
set_option maxHeartbeats 8000000 in
set_option maxRecDepth 100000 in
theorem pair_walk (hP : PermIs) (x y : Nat → Bt) (w : World) (ht : Laid.KTab w) :
    Calls Tryd.prog 11 #[.agg (tab 32 fun i => bv (x i)), .agg (tab 32 fun i => bv (y i))] w fun e w' => e = .returned (.agg (tab 32 fun i => bv (sum (both x y) i))) ∧ Below w.heap.size w w' := by
  have HT := Lib.hid ht
  clear ht
  have z1 := zeroPre
  have z2 := zeroHash
  generalize hz : (tab 32 fun _ => bv 0#8) = zh at *
  have HZ := Lib.hid hz
  clear hz
  generalize hz : (tab 64 fun _ => bv 0#8) = zp at *
  have HZP := Lib.hid hz
  clear hz
  go_enter Tryd.func11, Tryd.ntmps11
  go_upto_region 1 with (fail)
  have h1 : Hid (IsTab (((w.alloc (.cells (tab 32 fun i => bv (x i)) 24)).alloc (.cells (tab 32 fun i => bv (y i)) 24)).alloc (.cells zh 24)) w.heap.size 24 32 (fun i => bv (x i)) ∧
      IsTab (((w.alloc (.cells (tab 32 fun i => bv (x i)) 24)).alloc (.cells (tab 32 fun i => bv (y i)) 24)).alloc (.cells zh 24)) (w.heap.size + 1) 24 32 (fun i => bv (y i)) ∧
      IsTab (((w.alloc (.cells (tab 32 fun i => bv (x i)) 24)).alloc (.cells (tab 32 fun i => bv (y i)) 24)).alloc (.cells zh 24)) (w.heap.size + 1 + 1) 24 32 (fun _ => bv 0#8) ∧
      (((w.alloc (.cells (tab 32 fun i => bv (x i)) 24)).alloc (.cells (tab 32 fun i => bv (y i)) 24)).alloc (.cells zh 24)).heap.size = w.heap.size + 3 ∧
      Below w.heap.size w (((w.alloc (.cells (tab 32 fun i => bv (x i)) 24)).alloc (.cells (tab 32 fun i => bv (y i)) 24)).alloc (.cells zh 24))) := by
    rw [← HZ.out]
    have e1 : (w.alloc (.cells (tab 32 fun i => bv (x i)) 24)).heap.size = w.heap.size + 1 := by simp
    have e2 : ((w.alloc (.cells (tab 32 fun i => bv (x i)) 24)).alloc (.cells (tab 32 fun i => bv (y i)) 24)).heap.size = w.heap.size + 1 + 1 := by simp
    refine Lib.hid ⟨((IsTab.new w _ 32 _).alloc _).alloc _, ?_, ?_, by simp, (((Below.refl _ _).alloc (Nat.le_refl _) _).alloc (by simp) _).alloc (by simp; omega) _⟩
    · have := (IsTab.new (w.alloc (.cells (tab 32 fun i => bv (x i)) 24)) 24 32 fun i => bv (y i)).alloc (.cells (tab 32 fun _ => bv 0#8) 24)
      rw [e1] at this; exact this
    · have := IsTab.new ((w.alloc (.cells (tab 32 fun i => bv (x i)) 24)).alloc (.cells (tab 32 fun i => bv (y i)) 24)) 24 32 fun _ => bv 0#8
      rw [e2] at this; exact this
  generalize ((w.alloc (.cells (tab 32 fun i => bv (x i)) 24)).alloc (.cells (tab 32 fun i => bv (y i)) 24)).alloc (.cells zh 24) = w1 at *
  have hq : w.heap.size < w.heap.size + 1 ∧ w.heap.size + 1 < w.heap.size + 1 + 1 ∧ w.heap.size + 1 + 1 < w.heap.size + 3 := by omega
  have HQ := Lib.hid hq
  clear hq
  generalize w.heap.size + 1 + 1 = q2 at *
  generalize w.heap.size + 1 = q1 at *
  have hzl : zp.size = 64 := by rw [← HZP.out, tab_size]
  have HZL := Lib.hid hzl
  clear hzl
  have hzo : zp.all (·.oneCell') = true := by rw [← HZP.out]; exact one_bv _ _
  have HZO := Lib.hid hzo
  clear hzo
  have hzi : (Tryd.prog.info? 32).map (·.size) = some zp.size := by rw [HZL.out]; exact infPre'
  have HZI := Lib.hid hzi
  clear hzi
  go_upto_region 2 with (refine wpList_store_row rfl 32 (.tmp 5) (.tmp 6) rfl w1.heap.size zp rfl rfl 32 zp (heap_alloc_last w1 _) HZI.out rfl HZO.out ?_)
  rw [World.setRow_alloc_new]
  simp only [Act.put]
  have HR : Hid (Pr w w.heap.size q1 q2 w1.heap.size x y (fun _ => bv 0#8) (w1.alloc (.cells zp 32))) := by
    rw [← HZP.out]
    obtain ⟨a1, a2, a3, a4, a5⟩ := h1.out
    obtain ⟨b1, b2, b3⟩ := HQ.out
    exact Lib.hid ⟨a1.alloc _, a2.alloc _, a3.alloc _, IsTab.new w1 _ 64 _, by omega, by omega, by omega, by omega, by omega, a5.alloc (by omega) _⟩
  clear h1 HZ HZP HZL HZO HZI z1 z2 HQ
  generalize w1.alloc (.cells zp 32) = y0 at *
  generalize w1.heap.size = q3 at *
  generalize hq0 : w.heap.size = q0 at *
  have HQ0 := Lib.hid hq0
  clear hq0
  have s1 := slPreH q3
  have s2 := slHA q0
  go_still_tail 2, (by kernel_rfl)
  change wpList _ _ _ _ _ y0.drew
  refine wpList_copy_tab rfl (.tmp 7) (.tmp 8) 38 38 rfl 5 und22 size8 q3 0 32 64 ⟨q0, 0, none⟩ 32 32 rfl rfl 32 64 (fun _ => bv 0#8) HR.out.drew.sp 32 rfl (fun j => bv (x j)) (fun j hj => by rw [add_at, Nat.zero_add]; exact HR.out.sx.cell j hj) (by decide) (fun _ => rfl) ?_
  have HR2 := Lib.hid (HR.out.drew.row (splv (fun _ => bv 0#8) 0 32 fun j => bv (x j)))
  clear HR s1 s2
  generalize y0.drew.setRow q3 (tab 64 (splv (fun _ => bv 0#8) 0 32 fun j => bv (x j))) = y1 at *
  have s1 := slPreL q3
  have s2 := slHA q1
  go_upto_region 3 with (fail)
  go_still_tail 2, (by kernel_rfl)
  change wpList _ _ _ _ _ y1.drew
  refine wpList_copy_tab rfl (.tmp 10) (.tmp 11) 38 38 rfl 5 und22 size8 q3 32 32 32 ⟨q1, 0, none⟩ 32 32 rfl rfl 32 64 (splv (fun _ => bv 0#8) 0 32 fun j => bv (x j)) HR2.out.drew.sp 32 rfl (fun j => bv (y j)) (fun j hj => by rw [add_at, Nat.zero_add]; exact HR2.out.sy.cell j hj) (by decide) (fun _ => rfl) ?_
  have HR3 := Lib.hid (HR2.out.drew.row (splv (splv (fun _ => bv 0#8) 0 32 fun j => bv (x j)) 32 32 fun j => bv (y j)))
  clear HR2 s1 s2
  generalize y1.drew.setRow q3 (tab 64 (splv (splv (fun _ => bv 0#8) 0 32 fun j => bv (x j)) 32 32 fun j => bv (y j))) = y2 at *
  have s1 := slPreA q3
  have hb2 : Below w.heap.size w y2 := HR3.out.below
  have hB : IsBs y2 (some ⟨q3, 0, none⟩) (both x y) := .inr ⟨q3, 0, rfl, fun j hj => by
    rw [both_len] at hj
    rw [Nat.zero_add, HR3.out.sp.cell j hj, both_at x y j hj]
    unfold splv
    by_cases h : j < 32
    · rw [if_neg (by omega), if_pos (by omega), if_pos h]; rfl
    · rw [if_pos (by omega), if_neg h]⟩
  have hS := sum_walk hP (both x y) (some ⟨q3, 0, none⟩) 64 y2 (ktab_below HT.out hb2) hB (fun z hz => by cases hz; exact HR3.out.sp.lt) (by rw [both_len]; exact Nat.le_refl _) (by decide)
  rw [both_len] at hS
  have HS := Lib.hid hS
  clear hS hB hb2
  go_wp2_with (first
    | (go_at_call 10; refine HS.out.mono ?_; rintro e w3 ⟨rfl, hb3⟩)
    | (refine wpList_store_row rfl 24 (.tmp 4) (.tmp 14) rfl q2 (tab 32 fun i => bv (sum (both x y) i)) rfl rfl 24 _ (HR3.out.sr.below hb3) (infH _) (by rw [tab_size, tab_size]) (one_bv _ _) ?_))
  have hr : IsTab (World.setRow w3 q2 (tab 32 fun i => bv (sum (both x y) i))) q2 24 32 fun i => bv (sum (both x y) i) := (HR3.out.sr.below hb3).row
  have hbb := below_setRow (bl HR3.out.below hb3) HR3.out.g2 (tab 32 fun i => bv (sum (both x y) i))
  exact bodyPost_ret (results_cell_row rfl _ _ q2 24 _ (0, 0) _ rfl hr undH rfl (infH _)) rfl ⟨rfl, hbb⟩
end Kc
end Go.Proofs.YtkhdamjjbjmeaaaDoor
