/- Merged of Df. Own work. -/
import Derived.Test.YtjfpbponjhpdhaaDoorP26
namespace Go.Proofs.YtjfpbponjhpdhaaDoor
open Go.RowKit
set_option linter.unusedVariables false
set_option linter.unusedSimpArgs false
namespace Co
open Kc Mk Vm
theorem loadHd {w : World} {q : Nat} {M : Mac} (h : IsTab w q 48 19 (hv M)) : (Instr.loadAt 48 (.pointer (some ⟨q, 0, none⟩))).run Tryd.prog w = .ok (.agg (tab 19 (hv M))) w := by
  refine run_loadAt_mid w q 0 _ ((List.range 19).map (Co.hv M)) _ (fun j v hv => ?_) undHd rfl (by rw [List.length_map, List.length_range]; exact infHd')
  obtain ⟨hj, rfl⟩ := List.getElem?_eq_some_iff.1 hv
  simp only [List.length_map, List.length_range] at hj
  have := IsTab.cell h j hj
  simpa using this
/-- Words that are words. -/
def OkW (M : Mac) : Prop := (∀ i, M.reg i < 18446744073709551616) ∧ M.pc < 18446744073709551616 ∧ M.exit < 18446744073709551616
/-- The commitment. -/
def ofX (M : Mac) : Hx := pr (mroot M) (hdX M)
set_option maxHeartbeats 8000000 in
set_option maxRecDepth 100000 in
theorem join_walk (w : World) (r : Hx) (M : Mac) (hok : OkW M) (ht : Laid.KTab w) :
    Calls Tryd.prog 17 #[dv r, .agg (tab 19 (hv M))] w fun e w' => e = .returned (dv (pr r (hdX M))) ∧ Below w.heap.size w w' := by
  have HOK := Lib.hid hok
  have HKT := Lib.hid ht
  clear hok ht
  have z2 := zeroHash
  have HBH := Lib.hid (fun u : World => buildH0 u)
  generalize hz : (tab 32 fun _ => bv 0#8) = zh at *
  have HZ := Lib.hid hz
  clear hz
  have HZI : Hid ((Tryd.prog.info? 42).map (·.size) = some zh.size ∧ zh.all (·.oneCell') = true ∧ zh.size = 32) := Lib.hid ⟨by rw [← HZ.out]; exact infH _, by rw [← HZ.out]; exact one_bv _ _, by rw [← HZ.out, tab_size]⟩
  obtain ⟨hd, hhd⟩ : ∃ hd, tab 19 (hv M) = hd := ⟨_, rfl⟩
  have HHD := Lib.hid hhd
  rw [hhd]
  clear hhd
  unfold dv
  obtain ⟨rh, hrh⟩ : ∃ rh, (tab 32 fun i => bv (r i)) = rh := ⟨_, rfl⟩
  have HRH := Lib.hid hrh
  rw [hrh]
  clear hrh
  go_enter Tryd.func17, Tryd.ntmps17
  go_upto_region 1 with (fail)
  have H0 : Hid (IsTab (((w.alloc (.cells rh 42)).alloc (.cells hd 48)).alloc (.cells zh 42)) w.heap.size 42 32 (fun i => bv (r i)) ∧ IsTab (((w.alloc (.cells rh 42)).alloc (.cells hd 48)).alloc (.cells zh 42)) (w.heap.size + 1) 48 19 (hv M) ∧ IsTab (((w.alloc (.cells rh 42)).alloc (.cells hd 48)).alloc (.cells zh 42)) (w.heap.size + 2) 42 32 (fun _ => bv 0#8) ∧ Below w.heap.size w (((w.alloc (.cells rh 42)).alloc (.cells hd 48)).alloc (.cells zh 42))) := Lib.hid (by
    have e1 : (w.alloc (.cells rh 42)).heap.size = w.heap.size + 1 := by simp
    have e2 : ((w.alloc (.cells rh 42)).alloc (.cells hd 48)).heap.size = w.heap.size + 2 := by simp
    refine ⟨((?_ : IsTab (w.alloc (.cells rh 42)) w.heap.size 42 32 fun i => bv (r i)).alloc _).alloc _, IsTab.alloc ?_ _, ?_, (((Below.refl _ _).alloc (Nat.le_refl _) _).alloc (by simp) _).alloc (by simp; omega) _⟩
    · rw [← HRH.out]; exact IsTab.new w 42 32 _
    · have h := IsTab.new (w.alloc (.cells rh 42)) 48 19 (hv M)
      rw [e1] at h; rw [← HHD.out]; exact h
    · have h := put_new ((w.alloc (.cells rh 42)).alloc (.cells hd 48)) (fun _ => 0#8) zh HZ.out
      rw [e2] at h; exact h)
  generalize ((w.alloc (.cells rh 42)).alloc (.cells hd 48)).alloc (.cells zh 42) = y0 at *
  have HNE : Hid (w.heap.size ≤ w.heap.size + 2 ∧ w.heap.size ≠ w.heap.size + 2 ∧ w.heap.size + 1 ≠ w.heap.size + 2) := Lib.hid ⟨by omega, by omega, by omega⟩
  generalize w.heap.size + 2 = q4 at *
  generalize w.heap.size + 1 = q3 at *
  generalize hq : w.heap.size = q2 at *
  have HQ := Lib.hid hq
  clear hq
  have HS : Hid ((fun z : World => IsTab z q2 42 32 (fun i => bv (r i)) ∧ IsTab z q3 48 19 (hv M)) y0.drew) := Lib.hid ⟨H0.out.1, H0.out.2.1⟩
  have HR4 : Hid (IsTab y0.drew q4 42 32 (fun _ => bv 0#8)) := Lib.hid H0.out.2.2.1
  have HB : Hid (Below w.heap.size w y0.drew) := Lib.hid (by rw [HQ.out]; exact H0.out.2.2.2.drew)
  have HNE : Hid (w.heap.size ≤ q4 ∧ q2 ≠ q4 ∧ q3 ≠ q4) := Lib.hid (by rw [HQ.out]; exact HNE.out)
  clear H0
  refine wp_region_og (fun z : World => IsTab z q2 42 32 (fun i => bv (r i)) ∧ IsTab z q3 48 19 (hv M)) (.take 0 (.take 1 (.one 2 (.one 3 (.one 4 .done))))) (by kernel_rfl) (by kernel_rfl) (HS.out) ?_
  generalize y0.drew = y1 at *
  have HD := Lib.hid (digest_walk y1 M HOK.out.1 HOK.out.2.1 HOK.out.2.2 (ktab_below HKT.out HB.out))
  refine og_ld (some 5) 42 (.tmp 2) (.pointer (some ⟨q2, 0, none⟩)) (dv r) rfl rfl (by go_simp) rfl rfl (fun y hy => load32h hy.1) ?_
  simp only [Act.put, pS]
  refine og_ld (some 6) 48 (.tmp 3) (.pointer (some ⟨q3, 0, none⟩)) (.agg (tab 19 (hv M))) rfl rfl (by go_simp) rfl rfl (fun y hy => loadHd hy.2) ?_
  simp only [Act.put, pS]
  refine og_f rfl (by go_simp) fun K hK => ?_
  go_simp
  refine HD.out.mono ?_
  rintro e y2 ⟨he, hb⟩
  obtain rfl : e = _ := he
  have H2 : Hid (IsTab y2 q2 42 32 (fun i => bv (r i)) ∧ IsTab y2 q3 48 19 (hv M) ∧ IsTab y2 q4 42 32 (fun _ => bv 0#8) ∧ Below w.heap.size w y2) := Lib.hid ⟨HS.out.1.below hb, HS.out.2.below hb, HR4.out.below hb, bl HB.out hb⟩
  refine hK _ _ ⟨H2.out.1, H2.out.2.1⟩ ?_
  clear hK K hb HD HS HR4 HB
  try simp only [List.getElem_toArray, List.getElem_cons_succ, List.getElem_cons_zero, Act.put, pS]
  have HPR := Lib.hid (pair_dv r (hdX M) y2 (ktab_below HKT.out H2.out.2.2.2))
  refine og_f rfl (by go_simp) fun K hK => ?_
  go_simp
  refine HPR.out.mono ?_
  rintro e y3 ⟨he, hb⟩
  obtain rfl : e = _ := he
  have H3 : Hid (IsTab y3 q2 42 32 (fun i => bv (r i)) ∧ IsTab y3 q3 48 19 (hv M) ∧ IsTab y3 q4 42 32 (fun _ => bv 0#8) ∧ Below w.heap.size w y3) := Lib.hid ⟨H2.out.1.below hb, H2.out.2.1.below hb, H2.out.2.2.1.below hb, bl H2.out.2.2.2 hb⟩
  refine hK _ _ ⟨H3.out.1, H3.out.2.1⟩ ?_
  clear hK K hb HPR H2
  try simp only [List.getElem_toArray, List.getElem_cons_succ, List.getElem_cons_zero, Act.put, pS]
  refine og_f rfl (by go_simp) fun K hK => ?_
  refine wp_store_row 42 (.tmp 4) (.tmp 8) rfl q4 (tab 32 fun i => bv (pr r (hdX M) i)) rfl rfl 42 (tab 32 fun _ => bv 0#8) H3.out.2.2.1 (infH _) (by rw [tab_size, tab_size]) (one_bv _ _) ?_
  have H4 : Hid (IsTab (y3.setRow q4 (tab 32 fun i => bv (pr r (hdX M) i))) q4 42 32 (fun i => bv (pr r (hdX M) i)) ∧ Below w.heap.size w (y3.setRow q4 (tab 32 fun i => bv (pr r (hdX M) i)))) := Lib.hid ⟨H3.out.2.2.1.row, below_setRow H3.out.2.2.2 HNE.out.1 _⟩
  refine hK _ _ ⟨IsTab.rowOther H3.out.1 HNE.out.2.1, IsTab.rowOther H3.out.2.1 HNE.out.2.2⟩ ?_
  clear hK K H3
  try simp only [List.getElem_toArray, List.getElem_cons_succ, List.getElem_cons_zero, Act.put, pS]
  refine og_done (NoPanic.normal ?_)
  generalize y3.setRow q4 (tab 32 fun i => bv (pr r (hdX M) i)) = y4 at *
  go_wp2_with (fail)
  exact bodyPost_ret (results_cell_row rfl _ _ q4 42 _ (0, 0) _ rfl H4.out.1 undH rfl (infH _)) rfl ⟨rfl, H4.out.2⟩
set_option maxHeartbeats 8000000 in
set_option maxRecDepth 100000 in
theorem of_ok (w : World) (b : Nat) (M : Mac) (hm : IsMac w b M) (hmem : ∀ i, M.mem i < 18446744073709551616) (hok : OkW M) (ht : Laid.KTab w) :
    Calls Tryd.prog 16 #[.pointer (some ⟨b, 0, none⟩)] w fun e w' => e = .returned (.tuple #[dv (ofX M), .nilIface]) ∧ Below w.heap.size w w' := by
  have HOK := Lib.hid (And.intro hmem (And.intro hok ht))
  have HM := Lib.hid hm
  clear hmem hok ht hm
  have zHd := zeroHd
  have hzs : (tab 19 (hv m0)).size = 19 := tab_size _ _
  have hin := infHd m0
  have hon := oneHd m0
  generalize hz : (tab 19 (hv m0)) = zd at *
  have HZS := Lib.hid (And.intro hzs (And.intro hin hon))
  clear hzs hz hin hon
  have z2 := zeroHash
  have HBH := Lib.hid (fun u : World => buildH0 u)
  generalize hz : (tab 32 fun _ => bv 0#8) = zh at *
  have HZ := Lib.hid hz
  clear hz
  have HZI : Hid ((Tryd.prog.info? 42).map (·.size) = some zh.size ∧ zh.all (·.oneCell') = true ∧ zh.size = 32) := Lib.hid ⟨by rw [← HZ.out]; exact infH _, by rw [← HZ.out]; exact one_bv _ _, by rw [← HZ.out, tab_size]⟩
  go_enter Tryd.func16, Tryd.ntmps16
  go_upto_region 1 with (fail)
  have H0 : Hid (IsMac (w.alloc (.cells zh 42)) b M ∧ IsTab (w.alloc (.cells zh 42)) w.heap.size 42 32 (fun _ => bv 0#8) ∧ Below w.heap.size w (w.alloc (.cells zh 42))) := Lib.hid ⟨HM.out.below (ba _ _), put_new w (fun _ => 0#8) zh HZ.out, ba _ _⟩
  clear HM
  generalize w.alloc (.cells zh 42) = y0 at *
  have HW : Hid (w.heap.size ≤ w.heap.size) := Lib.hid (Nat.le_refl _)
  generalize hq : w.heap.size = q2 at *
  have HQ := Lib.hid hq
  clear hq
  have HRO := Lib.hid (Root_walk y0 b M H0.out.1 HOK.out.1 (ktab_below HOK.out.2.2 (by rw [HQ.out]; exact H0.out.2.2)))
  go_upto_region 2 with (first
    | (go_at_call 12; (with_reducible refine HRO.out.mono ?_); rintro e y1 ⟨he, hb⟩; obtain rfl : e = _ := he; have HB1 := Lib.hid hb; clear hb HRO)
    | ((with_reducible refine wpList_store_row (P := Tryd.prog) (w := y1.alloc (.cells zh 42)) ?_ 42 (.tmp 4) (.tmp 10) ?_ y1.heap.size (tab 32 fun i => bv (mroot M i)) ?_ ?_ 42 zh (heap_alloc_last y1 _) (infH _) ?_ (one_bv _ _) ?_); (· exact rfl); (· exact rfl); (· exact rfl); (· exact rfl); (· rw [HZI.out.2.2, tab_size]); rw [World.setRow_alloc_new]; simp only [Act.put]))
  have H2 : Hid (IsMac (y1.alloc (.cells (tab 32 fun i => bv (mroot M i)) 42)) b M ∧ IsTab (y1.alloc (.cells (tab 32 fun i => bv (mroot M i)) 42)) q2 42 32 (fun _ => bv 0#8) ∧ Below w.heap.size w (y1.alloc (.cells (tab 32 fun i => bv (mroot M i)) 42)) ∧ IsTab (y1.alloc (.cells (tab 32 fun i => bv (mroot M i)) 42)) y1.heap.size 42 32 (fun i => bv (mroot M i))) := Lib.hid ⟨(H0.out.1.below HB1.out).below (ba _ _), (H0.out.2.1.below HB1.out).below (ba _ _), bl (bl (by rw [HQ.out]; exact H0.out.2.2) HB1.out) (ba _ _), IsTab.new y1 _ 32 _⟩
  clear H0 HB1
  generalize y1.alloc (.cells (tab 32 fun i => bv (mroot M i)) 42) = y2 at *
  generalize y1.heap.size = q4 at *
  have HHO := Lib.hid (HeadOf_ok y2 b M H2.out.1)
  go_upto_region 5 with (first
    | (go_at_call 15; (with_reducible refine HHO.out.mono ?_); rintro e y3 ⟨he, hb⟩; obtain rfl : e = _ := he; have HB3 := Lib.hid hb; clear hb HHO)
    | ((with_reducible refine wpList_store_row (P := Tryd.prog) (w := y3.alloc (.cells zd 48)) ?_ 48 (.tmp 6) (.tmp 19) ?_ y3.heap.size (tab 19 (hv M)) ?_ ?_ 48 zd (heap_alloc_last y3 _) (infHd M) ?_ (oneHd M) ?_); (· exact rfl); (· exact rfl); (· exact rfl); (· exact rfl); (· rw [HZS.out.1, tab_size]); rw [World.setRow_alloc_new]; simp only [Act.put]))
  have H4 : Hid (IsTab (y3.alloc (.cells (tab 19 (hv M)) 48)) q2 42 32 (fun _ => bv 0#8) ∧ Below w.heap.size w (y3.alloc (.cells (tab 19 (hv M)) 48)) ∧ IsTab (y3.alloc (.cells (tab 19 (hv M)) 48)) q4 42 32 (fun i => bv (mroot M i)) ∧ IsTab (y3.alloc (.cells (tab 19 (hv M)) 48)) y3.heap.size 48 19 (hv M)) := Lib.hid ⟨(H2.out.2.1.below HB3.out).below (ba _ _), bl (bl H2.out.2.2.1 HB3.out) (ba _ _), (H2.out.2.2.2.below HB3.out).below (ba _ _), IsTab.new y3 48 19 (hv M)⟩
  clear H2 HB3
  generalize y3.alloc (.cells (tab 19 (hv M)) 48) = y4 at *
  generalize y3.heap.size = q6 at *
  have HL4 := Lib.hid (load32h H4.out.2.2.1)
  have HL6 := Lib.hid (loadHd H4.out.2.2.2)
  have HJ := Lib.hid (join_walk y4 (mroot M) M HOK.out.2.1 (ktab_below HOK.out.2.2 H4.out.2.1))
  go_wp2_with (first
    | ((with_reducible refine wpList_loadE (P := Tryd.prog) (w := y4) (ty := 42) (x := .tmp 4) (p := .pointer (some ⟨q4, 0, none⟩)) (v := dv (mroot M)) ?_ ?_ ?_ HL4.out ?_); (· exact rfl); (· exact rfl); (· exact rfl))
    | ((with_reducible refine wpList_loadE (P := Tryd.prog) (w := y4) (ty := 48) (x := .tmp 6) (p := .pointer (some ⟨q6, 0, none⟩)) (v := .agg (tab 19 (hv M))) ?_ ?_ ?_ HL6.out ?_); (· exact rfl); (· exact rfl); (· exact rfl))
    | (go_at_call 17; (with_reducible refine HJ.out.mono ?_); rintro e y5 ⟨he, hb⟩; obtain rfl : e = _ := he; have H5 : Hid (IsTab y5 q2 42 32 (fun _ => bv 0#8) ∧ Below w.heap.size w y5) := Lib.hid ⟨H4.out.1.below hb, bl H4.out.2.1 hb⟩; clear hb HJ)
    | ((with_reducible refine wpList_store_row (P := Tryd.prog) (w := y5) ?_ 42 (.tmp 2) (.tmp 27) ?_ q2 (tab 32 fun i => bv (pr (mroot M) (hdX M) i)) ?_ ?_ 42 (tab 32 fun _ => bv 0#8) ?_ (infH _) ?_ (one_bv _ _) ?_); (· exact rfl); (· exact rfl); (· exact rfl); (· exact rfl); (· exact H5.out.1); (· rw [tab_size, tab_size])))
  have hr : IsTab (World.setRow y5 q2 (tab 32 fun j => bv (pr (mroot M) (hdX M) j))) q2 42 32 fun j => bv (pr (mroot M) (hdX M) j) := H5.out.1.row
  exact bodyPost_ret (Kc.results_cell_tmp rfl _ _ q2 42 _ (0, 0) _ rfl hr undH rfl (infH _) .nilIface rfl) rfl ⟨rfl, below_setRow H5.out.2 (by rw [HQ.out]; exact Nat.le_refl _) _⟩
end Co
end Go.Proofs.YtjfpbponjhpdhaaDoor
