/-
  KeccakPermutes. Own work.
-/
import Derived.Test.YtdmbmilfclllaaaDoorRtop
import Derived.Test.YtdmbmilfclllaaaDoorKfix
import Derived.Test.YtdmbmilfclllaaaDoorEqa
namespace Go.Proofs.YtdmbmilfclllaaaDoor
open Go.RowKit
set_option linter.unusedVariables false
namespace Kc
structure Lp (W : World) (q0 q1 q2 : Nat) (a b c : Nat → Wd64) (y : World) : Prop where
  sa : IsTab y q0 24 25 fun i => wv (a i)
  sb : IsTab y q1 24 25 fun i => wv (b i)
  sx : IsTab y q2 24 25 fun i => wv (c i)
  kt : Laid.KTab y
  below : Below W.heap.size W y
theorem Lp.next {W : World} {q0 q1 q2 : Nat} {a b c : Nat → Wd64} {y y' : World} (h : Lp W q0 q1 q2 a b c y) (hb : Below y.heap.size y y') : Lp W q0 q1 q2 a b c y' :=
  ⟨h.sa.below hb, h.sb.below hb, h.sx.below hb, ktab_below h.kt hb, bl h.below hb⟩
theorem perm_walk_w (a : Nat → Wd64) (w : World) (ht : Laid.KTab w) : Calls Tryd.prog 8 #[.agg (words a)] w fun e w' => e = .returned (.agg (words (perm a))) ∧ Below w.heap.size w w' := perm_walk a w ht
set_option maxHeartbeats 8000000 in
set_option maxRecDepth 100000 in
theorem permutes_walk (a b : Nat → Wd64) (w : World) (ht : Laid.KTab w) :
    Calls Tryd.prog 6 #[.agg (words a), .agg (words b)] w fun e w' => e = .returned (.bool true) ∧ Below w.heap.size w w' := by
  have HT := Lib.hid ht
  clear ht
  have z1 := zero25
  generalize hz : tab 25 (fun _ => wv 0#64) = zp at *
  have HZ := Lib.hid hz
  clear hz
  have hzl : zp.size = 25 := by rw [← HZ.out, tab_size]
  have HZL := Lib.hid hzl
  clear hzl HZ
  go_enter Tryd.func6, Tryd.ntmps6
  go_upto_region 1 with (fail)
  have h1 : Hid (IsTab ((w.alloc (.cells (words a) 24)).alloc (.cells (words b) 24)) w.heap.size 24 25 (fun i => wv (a i)) ∧ IsTab ((w.alloc (.cells (words a) 24)).alloc (.cells (words b) 24)) (w.heap.size + 1) 24 25 (fun i => wv (b i)) ∧ Below w.heap.size w ((w.alloc (.cells (words a) 24)).alloc (.cells (words b) 24))) := by
    have e1 : (w.alloc (.cells (words a) 24)).heap.size = w.heap.size + 1 := by simp
    refine Lib.hid ⟨(IsTab.new w _ 25 _).alloc _, ?_, ((Below.refl _ _).alloc (Nat.le_refl _) _).alloc (by simp) _⟩
    have := IsTab.new (w.alloc (.cells (words a) 24)) 24 25 fun i => wv (b i)
    rw [e1] at this; exact this
  generalize (w.alloc (.cells (words a) 24)).alloc (.cells (words b) 24) = y0 at *
  generalize w.heap.size + 1 = q1 at *
  generalize hq0 : w.heap.size = q0 at *
  have HQ0 := Lib.hid hq0
  clear hq0
  have hb0 : Below w.heap.size w y0 := by rw [HQ0.out]; exact h1.out.2.2
  have HC := Lib.hid (perm_walk a y0 (ktab_below HT.out hb0))
  have HA := Lib.hid h1.out.1
  clear hb0
  go_upto_region 2 with (first
    | (refine wpList_load_row rfl 24 (.tmp 2) rfl q0 rfl 24 (words a) (0, 0) _ HA.out und25 rfl (inf25 _) ?_)
    | (go_at_call 8; refine HC.out.mono ?_; rintro e w1 ⟨rfl, hb1⟩)
    | (refine wpList_store_row rfl 24 (.tmp 5) (.tmp 7) rfl w1.heap.size (words (perm a)) rfl rfl 24 zp (heap_alloc_last w1 _) (inf25 _) (by rw [HZL.out, words, tab_size]) (one_wv _ _) ?_; rw [World.setRow_alloc_new]; simp only [Act.put]))
  have HR : Hid (Lp w q0 q1 w1.heap.size a b (perm a) (w1.alloc (.cells (words (perm a)) 24))) := by
    have hb : Below w.heap.size w w1 := by rw [HQ0.out]; have := h1.out.2.2; rw [← HQ0.out] at this ⊢; exact bl this hb1
    refine Lib.hid ⟨(h1.out.1.below hb1).alloc _, (h1.out.2.1.below hb1).alloc _, IsTab.new w1 _ 25 _, ktab_below HT.out (hb.alloc hb.size _), hb.alloc hb.size _⟩
  clear hb1 HA HC h1 HZL z1
  generalize w1.alloc (.cells (words (perm a)) 24) = y1 at *
  generalize w1.heap.size = q2 at *
  have hld0 : ∀ y, (∃ z : Wd (Lp w q0 q1 q2 a b (perm a)), y = z.val) → (Instr.loadAt 24 (.pointer (some ⟨q0, 0, none⟩))).run Tryd.prog y = .ok (.agg (words a)) y := fun y ⟨z, hz⟩ => by
    rw [hz]; exact load25 z.ok.sa 0 a (by decide) (fun j _ => by rw [Nat.zero_add])
  have hld1 : ∀ y, (∃ z : Wd (Lp w q0 q1 q2 a b (perm a)), y = z.val) → (Instr.loadAt 24 (.pointer (some ⟨q1, 0, none⟩))).run Tryd.prog y = .ok (.agg (words b)) y := fun y ⟨z, hz⟩ => by
    rw [hz]; exact load25 z.ok.sb 0 b (by decide) (fun j _ => by rw [Nat.zero_add])
  have hld2 : ∀ y, (∃ z : Wd (Lp w q0 q1 q2 a b (perm a)), y = z.val) → (Instr.loadAt 24 (.pointer (some ⟨q2, 0, none⟩))).run Tryd.prog y = .ok (.agg (words (perm a))) y := fun y ⟨z, hz⟩ => by
    rw [hz]; exact load25 z.ok.sx 0 (perm a) (by decide) (fun j _ => by rw [Nat.zero_add])
  have LD0 := Lib.hid hld0
  have LD1 := Lib.hid hld1
  have LD2 := Lib.hid hld2
  clear hld0 hld1 hld2
  have c1 := fun z : Wd (Lp w q0 q1 q2 a b (perm a)) => in_of_below z (fun y hb => z.ok.next hb) (fixed_walk permIs z.val z.ok.kt)
  have c2 := fun z : Wd (Lp w q0 q1 q2 a b (perm a)) => in_of_below z (fun y hb => z.ok.next hb) (Permute_walk a z.val)
  have c3 := fun z : Wd (Lp w q0 q1 q2 a b (perm a)) => in_of_below z (fun y hb => z.ok.next hb) (perm_walk_w b z.val z.ok.kt)
  have Q1 := Lib.hid c1
  have Q2 := Lib.hid c2
  have Q3 := Lib.hid c3
  clear c1 c2 c3
  have HR2 : Hid (Lp w q0 q1 q2 a b (perm a) y1.drew) := Lib.hid ⟨HR.out.sa, HR.out.sb, HR.out.sx, HR.out.kt, HR.out.below.drew⟩
  have NE : Nonempty (Wd (Lp w q0 q1 q2 a b (perm a))) := ⟨⟨_, HR2.out⟩⟩
  have e1 : ∀ u, (binOp .eql 24 (.agg (words (perm a))) (.agg (words (perm a)))).run Tryd.prog u = .ok (.bool true) u := fun u => by
    rw [eql25, (same25_iff _ _).2 fun _ _ => rfl]
  have heq : same25 (perm a) (perm b) = same25 a b := by
    rw [Bool.eq_iff_iff, same25_iff, same25_iff]
    exact ⟨perm_inj, perm_cong⟩
  have e2 : ∀ u, (binOp .eql 24 (.agg (words (perm a))) (.agg (words (perm b)))).run Tryd.prog u = .ok (.bool (same25 a b)) u := fun u => by rw [eql25, heq]
  have e3 := eql25 a b
  clear heq
  generalize same25 a b = β at *
  generalize words (perm a) = pa at *
  generalize words (perm b) = pb at *
  generalize words a = va at *
  generalize words b = vb at *
  refine wp_region_in (Lp w q0 q1 q2 a b (perm a)) (by kernel_rfl) (by kernel_rfl) HR2.out ?_
  repeat (first
    | (refine wpQuiet_loadg 24 _ (.pointer (some ⟨q0, 0, none⟩)) _ (by rfl) rfl rfl LD0.out ?_; simp only [Act.put, List.setIfInBounds_toArray, List.set_cons_zero, List.set_cons_succ])
    | (refine wpQuiet_loadg 24 _ (.pointer (some ⟨q1, 0, none⟩)) _ (by rfl) rfl rfl LD1.out ?_; simp only [Act.put, List.setIfInBounds_toArray, List.set_cons_zero, List.set_cons_succ])
    | (refine wpQuiet_loadg 24 _ (.pointer (some ⟨q2, 0, none⟩)) _ (by rfl) rfl rfl LD2.out ?_; simp only [Act.put, List.setIfInBounds_toArray, List.set_cons_zero, List.set_cons_succ])
    | (go_big_quiet_step (first | with_reducible exact Q1.out _ | with_reducible exact Q2.out _ | with_reducible exact Q3.out _)))
  refine wpQuiet_nil ?_
  rintro _ ⟨z, rfl⟩
  go_wp2_with fail
  go_ret
  exact ⟨rfl, z.ok.below⟩
end Kc
end Go.Proofs.YtdmbmilfclllaaaDoor
