/-
  keccak.Sum, keccak.Pair. Own work.
-/
import Derived.Test.YtkhdamjjbjmeaaaDoorKsm
namespace Go.Proofs.YtkhdamjjbjmeaaaDoor
open Go.RowKit
set_option linter.unusedVariables false
namespace Kc
theorem isH_nil {w : World} {q : Nat} (h : IsTab w q 74 162 (hv (fun _ => 0#64) (fun _ => 0#8) 0)) : IsH w q [] := ⟨fun _ => 0#8, h, fun j hj => by simp at hj⟩
theorem hsInfo : (Tryd.prog.info? 74).map (·.size) = some 162 := by kernel_rfl
theorem one_hv (s : Nat → Wd64) (p : Nat → Bt) (f : Nat) : (tab 162 (hv s p f)).all (·.oneCell') = true := tab_one fun i => by unfold hv; split; rfl; split; rfl; rfl
theorem isBs_keep {W w : World} {a : Option Addr} {l : List Bt} (h : IsBs W a l) (hc : ∀ b o v, b < W.heap.size → W.cell? ⟨b, o, none⟩ = some v → w.cell? ⟨b, o, none⟩ = some v) : IsBs w a l := by
  rcases h with h | ⟨b, o, h1, h2⟩
  · exact .inl h
  · exact .inr ⟨b, o, h1, fun j hj => hc _ _ _ (inHeap (h2 j hj)) (h2 j hj)⟩
set_option maxHeartbeats 8000000 in
set_option maxRecDepth 100000 in
theorem sum_walk (hP : PermIs) (l : List Bt) (a : Option Addr) (cap : Nat) (w : World) (ht : Laid.KTab w) (hB : IsBs w a l) (hab : ∀ x, a = some x → x.block < w.heap.size) (hcap : l.length ≤ cap) (hmax : cap ≤ maxLen) :
    Calls Tryd.prog 10 #[.slice a l.length cap] w fun e w' => e = .returned (.agg (tab 32 fun i => bv (sum l i))) ∧ Below w.heap.size w w' := by
  have HT := Lib.hid ht
  have HB := Lib.hid hB
  have HAB := Lib.hid hab
  clear ht hB hab
  have z1 := zeroHs
  have z2 := zeroHash
  generalize hz : (tab 32 fun _ => bv 0#8) = zh at *
  have HZ := Lib.hid hz
  clear hz
  generalize hz : tab 162 (hv (fun _ => 0#64) (fun _ => 0#8) 0) = zp at *
  have HZP := Lib.hid hz
  clear hz
  go_enter Tryd.func10, Tryd.ntmps10
  go_upto_region 1 with (fail)
  have h1 : Hid (IsTab (w.alloc (.cells zh 24)) w.heap.size 24 32 (fun _ => bv 0#8) ∧ (w.alloc (.cells zh 24)).heap.size = w.heap.size + 1 ∧ Below w.heap.size w (w.alloc (.cells zh 24))) := by
    rw [← HZ.out]
    exact Lib.hid ⟨IsTab.new w _ 32 _, by simp, (Below.refl _ _).alloc (Nat.le_refl _) _⟩
  generalize w.alloc (.cells zh 24) = w1 at *
  generalize hq1 : w.heap.size = q1 at *
  have HQ1 := Lib.hid hq1
  clear hq1
  have hzi : (Tryd.prog.info? 74).map (·.size) = some zp.size := by rw [← HZP.out, tab_size]; exact hsInfo
  have HZI := Lib.hid hzi
  clear hzi
  have hzo : zp.all (·.oneCell') = true := by rw [← HZP.out]; exact one_hv _ _ _
  have HZO := Lib.hid hzo
  clear hzo
  go_upto_region 2 with (refine wpList_store_row rfl 74 (.tmp 3) (.tmp 6) rfl w1.heap.size zp rfl rfl 74 zp (heap_alloc_last w1 _) HZI.out rfl HZO.out ?_)
  rw [World.setRow_alloc_new]
  simp only [Act.put]
  have h2 : Hid (IsH (w1.alloc (.cells zp 74)) w1.heap.size [] ∧ IsTab (w1.alloc (.cells zp 74)) q1 24 32 (fun _ => bv 0#8) ∧ w1.heap.size = q1 + 1 ∧ Below q1 w (w1.alloc (.cells zp 74)) ∧ (w1.alloc (.cells zp 74)).heap.size = q1 + 2) := by
    rw [← HZP.out]
    exact Lib.hid ⟨isH_nil (IsTab.new w1 _ 162 _), h1.out.1.alloc _, h1.out.2.1, h1.out.2.2.alloc (by have := h1.out.2.1; omega) _, by simp; exact h1.out.2.1⟩
  clear h1 HZI HZO HZP z1
  generalize w1.alloc (.cells zp 74) = w2 at *
  generalize w1.heap.size = q2 at *
  have hb2 : Below w.heap.size w w2 := by rw [HQ1.out]; exact h2.out.2.2.2.1
  have HA := Lib.hid (add_walk hP q2 [] l a cap w2 (ktab_below HT.out hb2) h2.out.1 (isBs_keep HB.out fun b o v _ hv => keep1 hb2 hv) (fun x hx => by have := HAB.out x hx; have := h2.out.2.2.1; rw [HQ1.out] at *; omega) hcap hmax (fun e => by have := inHeap (HT.out 0 (by decide)); have := h2.out.2.2.1; rw [HQ1.out] at *; omega))
  clear hb2
  go_wp2_with (go_at_call 28; refine HA.out.mono ?_; rintro e w3 ⟨rfl, hH3, hK3⟩)
  rw [List.nil_append] at hH3
  have hb3 : Below w.heap.size w w3 := by
    rw [HQ1.out]
    have hk := (Kept.ofBelow (S := (· = q2)) (by have := h2.out.2.2.2.1; rw [← HQ1.out] at this; exact this)).trans hK3 (fun _ _ h => h)
    have := hk.below (B := w.heap.size) (Nat.le_refl _) (fun k hk e => by rw [e]; have := h2.out.2.2.1; have := HQ1.out; omega)
    rw [HQ1.out] at this; exact this
  have hr3 : IsTab w3 q1 24 32 (fun _ => bv 0#8) := by
    have h := h2.out.2.1
    unfold IsTab at *
    rw [hK3.block q1 (Array.getElem?_eq_some_iff.1 h).1 (by have := h2.out.2.2.1; omega)]; exact h
  have HS := Lib.hid (hsum_walk hP q2 l w3 (ktab_below HT.out hb3) hH3)
  have H3 := Lib.hid (And.intro hb3 hr3)
  clear hH3 hK3 hb3 hr3 HA h2
  have hzi : ∀ g, (Tryd.prog.info? 24).map (·.size) = some (tab 32 g).size := infH
  have hzl : zh.size = 32 := by rw [← HZ.out, tab_size]
  have HZL := Lib.hid hzl
  clear hzl hzi
  go_upto_region 4 with (first
    | (go_at_call 29; refine HS.out.mono ?_; rintro e w4 ⟨rfl, hb4⟩)
    | (refine wpList_store_row rfl 24 (.tmp 4) (.tmp 11) rfl w4.heap.size (tab 32 fun i => bv (sum l i)) rfl rfl 24 zh (heap_alloc_last w4 _) (infH _) (by rw [HZL.out, tab_size]) (one_bv _ _) ?_; rw [World.setRow_alloc_new]))
  have h5 : Hid (Below w.heap.size w (w4.alloc (.cells (tab 32 fun i => bv (sum l i)) 24)) ∧ IsTab (w4.alloc (.cells (tab 32 fun i => bv (sum l i)) 24)) q1 24 32 (fun _ => bv 0#8) ∧ IsTab (w4.alloc (.cells (tab 32 fun i => bv (sum l i)) 24)) w4.heap.size 24 32 (fun i => bv (sum l i))) :=
    Lib.hid ⟨(bl H3.out.1 hb4).alloc (by have := (bl H3.out.1 hb4).size; exact this) _, (H3.out.2.below hb4).alloc _, IsTab.new w4 _ 32 _⟩
  clear hb4 HS H3
  generalize w4.alloc (.cells (tab 32 fun i => bv (sum l i)) 24) = w5 at *
  generalize w4.heap.size = q4 at *
  go_wp2_with (first
    | (refine wpList_load_row rfl 24 (.tmp 4) rfl q4 rfl 24 (tab 32 fun i => bv (sum l i)) (0, 0) _ h5.out.2.2 undH rfl (infH _) ?_)
    | (refine wpList_store_row rfl 24 (.tmp 2) (.tmp 13) rfl q1 (tab 32 fun i => bv (sum l i)) rfl rfl 24 _ h5.out.2.1 (infH _) (by rw [tab_size, tab_size]) (one_bv _ _) ?_))
  have hr : IsTab (World.setRow w5 q1 (tab 32 fun i => bv (sum l i))) q1 24 32 fun i => bv (sum l i) := h5.out.2.1.row
  have hbb := below_setRow h5.out.1 (by rw [HQ1.out]; exact Nat.le_refl _ : w.heap.size ≤ q1) (tab 32 fun i => bv (sum l i))
  exact bodyPost_ret (results_cell_row rfl _ _ q1 24 _ (0, 0) _ rfl hr undH rfl (infH _)) rfl ⟨rfl, hbb⟩
end Kc
end Go.Proofs.YtkhdamjjbjmeaaaDoor
