/-
  mootref02.Pair. Own work.
-/
import Derived.Test.YtnfcjangminhoaaDoorRsum
import Derived.Test.YtnfcjangminhoaaDoorKpair
namespace Go.Proofs.YtnfcjangminhoaaDoor
open Go.RowKit
set_option linter.unusedVariables false
namespace Kc
theorem len26 : Tryd.prog.arrayLen 26 = 32 := by kernel_rfl
theorem und26' : Tryd.prog.underlying 26 = some (.array (Tryd.prog.arrayLen 26) (Tryd.prog.elem 26)) := by kernel_rfl
theorem sizeE26 (w : World) : (sizeOf (Tryd.prog.elem 26)).run Tryd.prog w = .ok 1 w := by kernel_rfl
theorem sl26 (q : Nat) (w : World) : (Instr.sliceAt 26 (.pointer (some ⟨q, 0, none⟩)) none none none).run Tryd.prog w = .ok (.slice (some ⟨q, 0, none⟩) 32 32) w := by
  rw [run_sliceAt_array_all w _ ⟨q, 0, none⟩ und26', sizeE26]
  simp [slicedAt, len26, add_at]
def list32 (x : Nat → Bt) : List Bt := (List.range 32).map x
theorem src_tab {w : World} {q : Nat} {t : TypeId} (x : Nat → Bt) (h : IsTab w q t 32 fun i => bv (x i)) :
    ∀ j u, ((list32 x).map bv)[j]? = some u → w.cell? ((⟨q, 0, none⟩ : Addr).add j) = some u := by
  intro j u hu
  unfold list32 at hu
  have hj : j < 32 := by have := (List.getElem?_eq_some_iff.1 hu).1; simpa using this
  rw [add_at, Nat.zero_add, h.cell j hj]
  simpa [hj] using hu
theorem list32_len (x : Nat → Bt) : ((list32 x).map bv).length = 32 * 1 := by simp [list32]
theorem list32_one (x : Nat → Bt) : ∀ u ∈ (list32 x).map bv, u.oneCell' = true := by intro u hu; obtain ⟨b, _, rfl⟩ := List.mem_map.1 hu; rfl
set_option maxHeartbeats 16000000 in
set_option maxRecDepth 100000 in
theorem rpair_walk (x y : Nat → Bt) (w : World) :
    Calls Tryd.prog 32 #[.agg (tab 32 fun i => bv (x i)), .agg (tab 32 fun i => bv (y i))] w fun e w' => e = .returned (.agg (tab 32 fun i => bv (sum (both x y) i))) ∧ Below w.heap.size w w' := by
  obtain ⟨i0, hi0, hi1, hi2, hi3⟩ := one1
  have HI := Lib.hid (And.intro hi0 (And.intro hi1 (And.intro hi2 hi3)))
  clear hi0 hi1 hi2 hi3
  have z2 := zero26
  generalize hz : (tab 32 fun _ => bv 0#8) = z32 at *
  have HZ32 := Lib.hid hz
  clear hz
  go_enter Tryd.func32, Tryd.ntmps32
  go_upto_region 1 with (fail)
  have h1 : Hid (IsTab (((w.alloc (.cells (tab 32 fun i => bv (x i)) 26)).alloc (.cells (tab 32 fun i => bv (y i)) 26)).alloc (.cells z32 26)) w.heap.size 26 32 (fun i => bv (x i)) ∧
      IsTab (((w.alloc (.cells (tab 32 fun i => bv (x i)) 26)).alloc (.cells (tab 32 fun i => bv (y i)) 26)).alloc (.cells z32 26)) (w.heap.size + 1) 26 32 (fun i => bv (y i)) ∧
      IsTab (((w.alloc (.cells (tab 32 fun i => bv (x i)) 26)).alloc (.cells (tab 32 fun i => bv (y i)) 26)).alloc (.cells z32 26)) (w.heap.size + 1 + 1) 26 32 (fun _ => bv 0#8) ∧
      (((w.alloc (.cells (tab 32 fun i => bv (x i)) 26)).alloc (.cells (tab 32 fun i => bv (y i)) 26)).alloc (.cells z32 26)).heap.size = w.heap.size + 3 ∧
      Below w.heap.size w (((w.alloc (.cells (tab 32 fun i => bv (x i)) 26)).alloc (.cells (tab 32 fun i => bv (y i)) 26)).alloc (.cells z32 26))) := by
    rw [← HZ32.out]
    have e1 : (w.alloc (.cells (tab 32 fun i => bv (x i)) 26)).heap.size = w.heap.size + 1 := by simp
    have e2 : ((w.alloc (.cells (tab 32 fun i => bv (x i)) 26)).alloc (.cells (tab 32 fun i => bv (y i)) 26)).heap.size = w.heap.size + 1 + 1 := by simp
    refine Lib.hid ⟨((IsTab.new w _ 32 _).alloc _).alloc _, ?_, ?_, by simp, (((Below.refl _ _).alloc (Nat.le_refl _) _).alloc (by simp) _).alloc (by simp; omega) _⟩
    · have := (IsTab.new (w.alloc (.cells (tab 32 fun i => bv (x i)) 26)) 26 32 fun i => bv (y i)).alloc (.cells (tab 32 fun _ => bv 0#8) 26)
      rw [e1] at this; exact this
    · have := IsTab.new ((w.alloc (.cells (tab 32 fun i => bv (x i)) 26)).alloc (.cells (tab 32 fun i => bv (y i)) 26)) 26 32 fun _ => bv 0#8
      rw [e2] at this; exact this
  generalize ((w.alloc (.cells (tab 32 fun i => bv (x i)) 26)).alloc (.cells (tab 32 fun i => bv (y i)) 26)).alloc (.cells z32 26) = w1 at *
  have hq : w.heap.size < w.heap.size + 1 ∧ w.heap.size + 1 < w.heap.size + 1 + 1 ∧ w.heap.size + 1 + 1 < w.heap.size + 3 := by omega
  have HQ := Lib.hid hq
  clear hq
  generalize w.heap.size + 1 + 1 = q2 at *
  generalize w.heap.size + 1 = q1 at *
  generalize hq0 : w.heap.size = q0 at *
  have HQ0 := Lib.hid hq0
  clear hq0
  have s1 := sl26 q0
  have s2 := sl26 q1
  have hown0 : Hid ((w1.alloc (.cells #[] 5)).ownsRow w1.heap.size 5 1 (.slice (some ⟨w1.heap.size, 0, none⟩) 0 0) 0 []) := Lib.hid ⟨rfl, .inr ⟨w1.heap.size, 0, #[], rfl, Nat.le_refl _, heap_alloc_new w1 _, Nat.le_refl _, by decide, rfl, rfl⟩⟩
  have HS0 := Lib.hid (src_tab x (h1.out.1.alloc (.cells #[] 5)))
  go_upto_region 2 with (refine wpList_append_at _ rfl (.tmp 6) (.tmp 7) 57 rfl w1.heap.size 5 i0 (.int .u8 0) 1 1 und22 HI.out rfl (by decide) _ 0 [] rfl hown0.out ⟨q0, 0, none⟩ 32 32 ((list32 x).map bv) rfl (list32_len x) HS0.out (list32_one x) (by decide) (by decide) (by simp) ?_; intro V1 w2 hown1 hgr1 hat1)
  have h2 : Hid (w2.ownsRow w1.heap.size 5 1 V1 32 ((list32 x).map bv) ∧ Below w1.heap.size w1 w2) :=
    Lib.hid ⟨by simpa using hown1, below_grown (Nat.le_refl _) ((Below.refl _ _).alloc (Nat.le_refl _) _) hgr1 (fun k hk => by injection hk with hk; subst hk; exact Nat.le_refl _)⟩
  clear hown0 HS0 hown1 hgr1 hat1 s1
  have HS1 := Lib.hid (src_tab y (h1.out.2.1.below h2.out.2))
  have HSZ := Lib.hid h2.out.2.size
  go_wp2_with (first
    | (refine wpList_append_at _ rfl (.tmp 9) (.tmp 10) 57 rfl w1.heap.size 5 i0 (.int .u8 0) 1 1 und22 HI.out rfl (by decide) _ 32 ((list32 x).map bv) rfl h2.out.1 ⟨q1, 0, none⟩ 32 32 ((list32 y).map bv) rfl (list32_len y) HS1.out (list32_one y) (by decide) (by decide) HSZ.out ?_
       intro V2 w3 hown2 hgr2 hat2
       have h3 : Hid (w3.ownsRow w1.heap.size 5 1 V2 64 ((both x y).map bv) ∧ Below w1.heap.size w1 w3) := Lib.hid ⟨by rw [← List.map_append] at hown2; exact hown2, below_grown (Nat.le_refl _) h2.out.2 hgr2 (fun k hk => owns_base h2.out.1 hk)⟩
       clear hown2 hgr2 hat2
       obtain ⟨g, cap, rfl, hnc, hcm, hBg, hln, hrow⟩ := row8_of h3.out.1 (by decide)
       have HR := Lib.hid (And.intro hnc hrow)
       clear hnc hcm hBg hln hrow)
    | (go_at_call 38
       have HS := rsum_walk (both x y) (some ⟨g, 0, none⟩) cap w3 (.inr ⟨g, 0, rfl, fun j hj => by rw [Nat.zero_add]; exact HR.out.2.cell j (by rw [both_len] at hj; exact hj)⟩) (fun h => by cases h) (by rw [both_len]; exact HR.out.1) (by rw [both_len]; decide)
       rw [both_len] at HS
       refine HS.mono ?_
       rintro e w4 ⟨rfl, hb4⟩
       have ha2 := (h1.out.2.2.1.below h3.out.2).below hb4)
    | (refine wpList_store_row rfl 26 (.tmp 4) (.tmp 12) rfl q2 (tab 32 fun i => bv (sum (both x y) i)) rfl rfl 26 _ ha2 (inf26 _) (by rw [tab_size, tab_size]) (one_bv _ _) ?_))
  have hr : IsTab (World.setRow w4 q2 (tab 32 fun i => bv (sum (both x y) i))) q2 26 32 fun i => bv (sum (both x y) i) := ha2.row
  have hbb : Below w.heap.size w w4 := by
    have h9 : Below q0 w w1 := h1.out.2.2.2.2
    rw [← HQ0.out] at h9
    exact bl (bl h9 h3.out.2) hb4
  have hqq : w.heap.size ≤ q2 := by rw [HQ0.out]; have := HQ.out; omega
  exact bodyPost_ret (v := .agg (tab 32 fun i => bv (sum (both x y) i))) (results_cell_row rfl _ _ q2 26 _ (0, 0) _ rfl hr und26 rfl (inf26 _)) rfl ⟨rfl, below_setRow hbb hqq _⟩
end Kc
end Go.Proofs.YtnfcjangminhoaaDoor
