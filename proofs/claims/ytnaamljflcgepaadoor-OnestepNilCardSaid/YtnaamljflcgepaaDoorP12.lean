/- Merged of De Df. Own work. -/
import Derived.Test.YtnaamljflcgepaaDoorP11
namespace Go.Proofs.YtnaamljflcgepaaDoor
open Go.RowKit
set_option linter.unusedVariables false
set_option linter.unusedSimpArgs false
namespace Co
open Kc Mk Vm
theorem slHO (q o : Nat) (w : World) : (Instr.sliceAt 31 (.pointer (some ⟨q, o, none⟩)) none none none).run Tryd.prog w = .ok (.slice (some ⟨q, o, none⟩) 32 32) w := by
  rw [run_sliceAt_array_all w _ ⟨q, o, none⟩ undH', sizeH]
  simp [slicedAt, lenH, Addr.add]
def hdX (M : Mac) : Hx := pr (rootOf 2 4 (lf4 M.reg)) (fX (sel M.pc (if M.halted then 1 else 0) M.exit 0))
theorem put3 (a b c j : Nat) (hj : j < 32) : Rl.putv (Rl.putv (Rl.putv (fun _ => bv 0#8) 0 a 8) 1 b 8) 2 c 8 j = bv (fX (sel a b c 0) j) := by
  unfold Rl.putv fX
  rw [if_pos hj]
  by_cases h2 : 16 ≤ j ∧ j < 24
  · rw [if_pos (by omega), show j / 8 = 2 from by omega, show j % 8 = j - 8 * 2 from by omega]; exact ub_wb _ _
  rw [if_neg (by omega)]
  by_cases h1 : 8 ≤ j ∧ j < 16
  · rw [if_pos (by omega), show j / 8 = 1 from by omega, show j % 8 = j - 8 * 1 from by omega]; exact ub_wb _ _
  rw [if_neg (by omega)]
  by_cases h0 : j < 8
  · rw [if_pos (by omega), show j / 8 = 0 from by omega, show j % 8 = j - 8 * 0 from by omega]; exact ub_wb _ _
  rw [if_neg (by omega), show j / 8 = 3 from by omega]
  show bv 0#8 = bv (wb 0 _)
  rw [wb_zero]
theorem put2 (a c j : Nat) (hj : j < 32) : Rl.putv (Rl.putv (fun _ => bv 0#8) 0 a 8) 2 c 8 j = bv (fX (sel a 0 c 0) j) := by
  unfold Rl.putv fX
  rw [if_pos hj]
  by_cases h2 : 16 ≤ j ∧ j < 24
  · rw [if_pos (by omega), show j / 8 = 2 from by omega, show j % 8 = j - 8 * 2 from by omega]; exact ub_wb _ _
  rw [if_neg (by omega)]
  by_cases h0 : j < 8
  · rw [if_pos (by omega), show j / 8 = 0 from by omega, show j % 8 = j - 8 * 0 from by omega]; exact ub_wb _ _
  rw [if_neg (by omega)]
  have e : sel a 0 c 0 (j / 8) = 0 := by
    have e : j / 8 = 1 ∨ j / 8 = 3 := by omega
    rcases e with e | e <;> rw [e] <;> rfl
  rw [e, wb_zero]
/-- What the rest keeps. -/
structure Dr (W : World) (q1 q2 q6 q8 : Nat) (M : Mac) (R : Hx) (g : Nat → Value) (y : World) : Prop where
  box : IsTab y q1 35 19 (hv M)
  res : IsTab y q2 31 32 (fun _ => bv 0#8)
  s6 : IsTab y q6 31 32 fun i => bv (R i)
  s8 : IsTab y q8 31 32 g
  below : Below W.heap.size W y
  ge : W.heap.size ≤ q1 ∧ q1 < q2 ∧ q2 < q6 ∧ q6 < q8
theorem Dr.drew {W y : World} {q1 q2 q6 q8 : Nat} {M : Mac} {R : Hx} {g : Nat → Value} (h : Dr W q1 q2 q6 q8 M R g y) : Dr W q1 q2 q6 q8 M R g y.drew := ⟨h.box, h.res, h.s6, h.s8, h.below.drew, h.ge⟩
theorem Dr.put {W y y' : World} {q1 q2 q6 q8 : Nat} {M : Mac} {R : Hx} {g g' : Nat → Value} (h : Dr W q1 q2 q6 q8 M R g y) (hp : Rl.Put y q8 31 32 g' y') : Dr W q1 q2 q6 q8 M R g' y' := by
  have n := h.ge
  exact ⟨(hp.kept.block q1 h.box.lt (by omega)).trans h.box, (hp.kept.block q2 h.res.lt (by omega)).trans h.res, (hp.kept.block q6 h.s6.lt (by omega)).trans h.s6, hp.row, h.below.trans (hp.kept.below (by have := h.below.size; exact this) fun k _ hk => by rw [hk]; omega), n⟩
theorem slL4 (q : Nat) (w : World) : (Instr.sliceAt 137 (.pointer (some ⟨q, 0, none⟩)) none none none).run Tryd.prog w = .ok (.slice (some ⟨q, 0, none⟩) 4 4) w := by kernel_rfl
structure Dr0 (W : World) (q1 q2 q6 : Nat) (M : Mac) (R : Hx) (y : World) : Prop where
  box : IsTab y q1 35 19 (hv M)
  res : IsTab y q2 31 32 (fun _ => bv 0#8)
  s6 : IsTab y q6 31 32 fun i => bv (R i)
  below : Below W.heap.size W y
  ge : W.heap.size ≤ q1 ∧ q1 < q2 ∧ q2 < q6
/-- What Digest's loop keeps. -/
structure Dg (W : World) (q1 q2 q3 : Nat) (M : Mac) (m : Nat) (y : World) : Prop where
  box : IsTab y q1 35 19 (hv M)
  res : IsTab y q2 31 32 (fun _ => bv 0#8)
  lv : IsTab y q3 137 128 (fP M.reg m)
  below : Below W.heap.size W y
  ge : W.heap.size ≤ q1 ∧ q1 < q2 ∧ q2 < q3
theorem Dg.put {W y y' : World} {q1 q2 q3 m i : Nat} {M : Mac} (h : Dg W q1 q2 q3 M m y) (hm : m = 8 * i) (hp : Rl.Put y q3 137 128 (Rl.putv (fP M.reg m) i (M.reg i) 8) y') : Dg W q1 q2 q3 M (8 * (i + 1)) y' := by
  subst hm
  have g := h.ge
  have l1 := h.box.lt
  have l2 := h.res.lt
  have hr := hp.row
  rw [putv_fP] at hr
  exact ⟨(hp.kept.block q1 l1 (by omega)).trans h.box, (hp.kept.block q2 l2 (by omega)).trans h.res, hr, h.below.trans (hp.kept.below (by have := h.below.size; exact this) fun k _ hk => by rw [hk]; omega), g⟩
set_option maxHeartbeats 8000000 in
set_option maxRecDepth 100000 in
theorem digest_walk (w : World) (M : Mac) (hr : ∀ i, M.reg i < 18446744073709551616) (hpc : M.pc < 18446744073709551616) (hex : M.exit < 18446744073709551616) (ht : Laid.KTab w) :
    Calls Tryd.prog 35 #[.agg (tab 19 (hv M))] w fun e w' => e = .returned (dv (hdX M)) ∧ Below w.heap.size w w' := by
  have HOK := Lib.hid (And.intro hr (And.intro hpc (And.intro hex ht)))
  clear hr hpc hex ht
  have z4 := zero4
  have HB4 := Lib.hid (fun u : World => build4 u)
  generalize hz4 : (tab 128 fun _ => bv 0#8) = z4h at *
  have HZ4 := Lib.hid hz4
  clear hz4
  have HI4 : Hid ((Tryd.prog.info? 137).map (·.size) = some z4h.size ∧ z4h.all (·.oneCell') = true ∧ z4h.size = 128) := Lib.hid ⟨by rw [← HZ4.out]; exact inf4 _, by rw [← HZ4.out]; exact one_bv _ _, by rw [← HZ4.out, tab_size]⟩
  have z2 := zeroHash
  have HBH := Lib.hid (fun u : World => buildH0 u)
  generalize hz : (tab 32 fun _ => bv 0#8) = zh at *
  have HZ := Lib.hid hz
  clear hz
  have HZI : Hid ((Tryd.prog.info? 31).map (·.size) = some zh.size ∧ zh.all (·.oneCell') = true ∧ zh.size = 32) := Lib.hid ⟨by rw [← HZ.out]; exact infH _, by rw [← HZ.out]; exact one_bv _ _, by rw [← HZ.out, tab_size]⟩
  obtain ⟨hd, hhd⟩ : ∃ hd, tab 19 (hv M) = hd := ⟨_, rfl⟩
  have HHD := Lib.hid hhd
  rw [hhd]
  clear hhd
  go_enter Tryd.func35, Tryd.ntmps35
  go_upto_region 1 with (fail)
  have H0 : Hid (IsTab ((w.alloc (.cells hd 35)).alloc (.cells zh 31)) w.heap.size 35 19 (hv M) ∧ IsTab ((w.alloc (.cells hd 35)).alloc (.cells zh 31)) (w.heap.size + 1) 31 32 (fun _ => bv 0#8) ∧ Below w.heap.size w ((w.alloc (.cells hd 35)).alloc (.cells zh 31))) := Lib.hid (by
    have e1 : (w.alloc (.cells hd 35)).heap.size = w.heap.size + 1 := by simp
    have t6 := put_new (w.alloc (.cells hd 35)) (fun _ => 0#8) zh HZ.out
    rw [e1] at t6
    refine ⟨IsTab.alloc ?_ _, t6, ((Below.refl _ _).alloc (Nat.le_refl _) _).alloc (by simp) _⟩
    rw [← HHD.out]; exact IsTab.new w 35 19 (hv M))
  generalize (w.alloc (.cells hd 35)).alloc (.cells zh 31) = y0 at *
  generalize hq2 : w.heap.size + 1 = q2 at *
  generalize hq : w.heap.size = q1 at *
  have HQ := Lib.hid (And.intro hq hq2)
  clear hq hq2
  go_upto_region 2 with (first
    | ((with_reducible refine wpList_buildM (P := Tryd.prog) (w := y0) ?_ 137 ?_ (.agg z4h) (HB4.out y0) ?_); (· exact rfl); (· exact rfl))
    | ((with_reducible refine wpList_store_row (P := Tryd.prog) (w := y0.alloc (.cells z4h 137)) ?_ 137 (.tmp 3) (.tmp 9) ?_ y0.heap.size z4h ?_ ?_ 137 z4h (heap_alloc_last y0 _) HI4.out.1 ?_ HI4.out.2.1 ?_); (· exact rfl); (· exact rfl); (· exact rfl); (· exact rfl); (· exact rfl); rw [World.setRow_alloc_new]; simp only [Act.put]))
  have H1 : Hid (Dg w q1 q2 y0.heap.size M 0 (y0.alloc (.cells z4h 137))) := Lib.hid ⟨H0.out.1.alloc _, H0.out.2.1.alloc _, by rw [fP_zero, ← HZ4.out]; exact IsTab.new y0 137 128 _, by rw [HQ.out.1]; exact H0.out.2.2.alloc (by have := H0.out.2.1.lt; have := HQ.out; omega) _, by have := HQ.out; omega, by have := HQ.out; omega, H0.out.2.1.lt⟩
  clear H0
  generalize y0.alloc (.cells z4h 137) = y1 at *
  generalize y0.heap.size = q3 at *
  have HLR := Lib.hid (loadRgBox H1.out.box)
  go_upto_region 3 with (first
    | ((with_reducible refine wpList_loadE (P := Tryd.prog) (w := y1) (ty := 33) (x := .tmp 10) (p := .pointer (some ⟨q1, 0, none⟩)) (v := .agg (tab 16 (uv M.reg))) ?_ ?_ ?_ HLR.out ?_); (· exact rfl); (· exact rfl); (· exact rfl)))
  clear HLR
  obtain ⟨rg, hrg⟩ : ∃ rg, tab 16 (uv M.reg) = rg := ⟨_, rfl⟩
  have HRG := Lib.hid hrg
  rw [hrg]
  clear hrg
  go_loopw [12] (fun t y => ∃ i : Nat, t = .int .i64 i ∧ Hid (i ≤ 16 ∧ Dg w q1 q2 q3 M (8 * i) y)) (fun t _ => 16 - (intOf t).toNat)
  case atStart => exact ⟨0, rfl, Lib.hid ⟨Nat.zero_le _, H1.out⟩⟩
  case round =>
    obtain ⟨i, rfl, hp⟩ := hrel
    have HP := Lib.hid hp.out
    clear hp H1
    by_cases hlt : (i : Int) < 16
    · have hix := fun u : World => idxRg M.reg i (by omega) u
      rw [HRG.out] at hix
      have HJ : Hid (i + 1 ≤ 16 ∧ wrap64 ((i : Int) + 1) = ((i + 1 : Nat) : Int)) := Lib.hid ⟨by omega, by unfold wrap64; omega⟩
      obtain ⟨D, hD⟩ : ∃ D, i / 4 = D := ⟨_, rfl⟩
      obtain ⟨m, hm⟩ : ∃ m, i % 4 = m := ⟨_, rfl⟩
      have e1 : (i : Int).tdiv 4 = (D : Int) := by rw [Int.tdiv_eq_ediv_of_nonneg (by omega)]; omega
      have e2 : (i : Int).tmod 4 = (m : Int) := by rw [Int.tmod_eq_emod_of_nonneg (by omega)]; omega
      have e0 : (D : Int) < 4 := by omega
      have s1 := slHO q3 (D * 32)
      have hpa := put_at wr q3 137 128 32 32 (D * 32) (4 * D) (fP M.reg (8 * i)) m (M.reg i) HP.out.2.lv (by omega) (by omega) (by omega) (by decide) (HOK.out.1 i)
      rw [show 4 * D + m = i from by omega] at hpa
      have HPA := Lib.hid hpa
      clear hpa hD hm
      generalize hv2 : M.reg i = v at *
      have HVV := Lib.hid hv2
      clear hv2
      go_upto_region 6 with (go_at_call 50; (with_reducible refine HPA.out.mono ?_); rintro e y2 ⟨he, hp⟩; obtain rfl : e = _ := he; have HP2 := Lib.hid hp; clear hp HPA)
      have HN : Hid (Dg w q1 q2 q3 M (8 * (i + 1)) y2) := Lib.hid (HP.out.2.put rfl (by have h := HP2.out; rw [← HVV.out] at h; exact h))
      have hw1 := HJ.out.2
      clear e1 e2 e0 s1 hix HP HP2
      go_wp2_with (fail)
      go_roundw
      case rel => exact ⟨i + 1, by go_num, Lib.hid ⟨HJ.out.1, HN.out⟩⟩
      case measure => simp [intOf]; omega
    · obtain rfl : i = 16 := by have := HP.out.1; omega
      clear hlt
      have H2 : Hid (Dg w q1 q2 q3 M 128 wr) := Lib.hid HP.out.2
      clear HP
      generalize wr = y3 at *
      have s4 := slL4 q3
      have hra := root_any 2 (some ⟨q3, 0, none⟩) 4 4 (lf4 M.reg) y3 (fP_hs H2.out.lv) (fun h => by cases h) (Nat.le_refl _) (by decide) (ktab_below HOK.out.2.2.2 H2.out.below)
      have HRA := Lib.hid hra
      clear hra
      obtain ⟨R, hR⟩ : ∃ R, rootOf 2 4 (lf4 M.reg) = R := ⟨_, rfl⟩
      have HRR := Lib.hid hR
      have HRA : Hid (Calls Tryd.prog 26 #[.int .i64 2, .slice (some ⟨q3, 0, none⟩) 4 4] y3 fun e w' => e = .returned (.tuple #[dv R, errV (wrong 2 4)]) ∧ Below y3.heap.size y3 w') := Lib.hid (by have h := HRA.out; rw [HRR.out] at h; exact h)
      clear hR
      go_upto_region 8 with (first
        | (go_at_call 26; (with_reducible refine HRA.out.mono ?_); rintro e y4 ⟨he, hb⟩; obtain rfl : e = _ := he; have HB4 := Lib.hid hb; clear hb HRA)
        | ((with_reducible refine wpList_store_row (P := Tryd.prog) (w := y4.alloc (.cells zh 31)) ?_ 31 (.tmp 6) (.tmp 28) ?_ y4.heap.size (tab 32 fun i => bv (R i)) ?_ ?_ 31 zh (heap_alloc_last y4 _) (infH _) ?_ (one_bv _ _) ?_); (· exact rfl); (· exact rfl); (· exact rfl); (· exact rfl); (· rw [HZI.out.2.2, tab_size]); rw [World.setRow_alloc_new]; simp only [Act.put]))
      clear s4
      have H5 : Hid (Dr0 w q1 q2 y4.heap.size M R (y4.alloc (.cells (tab 32 fun i => bv (R i)) 31))) := Lib.hid ⟨(H2.out.box.below HB4.out).alloc _, (H2.out.res.below HB4.out).alloc _, IsTab.new y4 _ 32 _, (bl H2.out.below HB4.out).alloc (by have := (bl H2.out.below HB4.out).size; exact this) _, H2.out.ge.1, H2.out.ge.2.1, by have := H2.out.res.lt; have := HB4.out.size; omega⟩
      clear H2 HB4
      generalize y4.alloc (.cells (tab 32 fun i => bv (R i)) 31) = y5 at *
      generalize y4.heap.size = q6 at *
      go_upto_region 9 with (first
        | ((with_reducible refine wpList_buildM (P := Tryd.prog) (w := y5) ?_ 31 ?_ (.agg zh) (HBH.out y5) ?_); (· exact rfl); (· exact rfl))
        | ((with_reducible refine wpList_store_row (P := Tryd.prog) (w := y5.alloc (.cells zh 31)) ?_ 31 (.tmp 8) (.tmp 30) ?_ y5.heap.size zh ?_ ?_ 31 zh (heap_alloc_last y5 _) HZI.out.1 ?_ HZI.out.2.1 ?_); (· exact rfl); (· exact rfl); (· exact rfl); (· exact rfl); (· exact rfl); rw [World.setRow_alloc_new]; simp only [Act.put]))
      have H6 : Hid (Dr w q1 q2 q6 y5.heap.size M R (fun _ => bv 0#8) (y5.alloc (.cells zh 31))) := Lib.hid ⟨H5.out.box.alloc _, H5.out.res.alloc _, H5.out.s6.alloc _, put_new y5 (fun _ => 0#8) zh HZ.out, H5.out.below.alloc (by have := H5.out.below.size; exact this) _, H5.out.ge.1, H5.out.ge.2.1, H5.out.ge.2.2, H5.out.s6.lt⟩
      clear H5
      generalize y5.alloc (.cells zh 31) = y6 at *
      generalize y5.heap.size = q8 at *
      have HS9 : Hid (Dr w q1 q2 q6 q8 M R (fun _ => bv 0#8) y6.drew) := Lib.hid H6.out.drew
      clear H6
      refine wp_region_og (fun z : World => IsTab z q1 35 19 (hv M)) (.take 0 (.take 1 (.take 2 (.one 3 .done)))) (by kernel_rfl) (by kernel_rfl) (HS9.out.box) ?_
      generalize y6.drew = y7 at *
      have hc := Rl.put_walk y7 q8 31 32 32 (fun _ => bv 0#8) 0 M.pc HS9.out.s8 (by decide) (by decide) HOK.out.2.1
      rw [show ((0 : Nat) : Int) = 0 from rfl] at hc
      have HC := Lib.hid hc
      clear hc
      refine og_tk (some 31) (.slice (some ⟨q8, 0, none⟩) 32 32) rfl rfl (by go_simp) (fun y hy => by have h := slHA q8 y; simp [execOp, go_sem, h, Result.andThen]) ?_
      simp only [Act.put, pS]
      refine og_tk (some 32) (.pointer (some ⟨q1, 16, none⟩)) rfl rfl (by go_simp) (fun _ _ => by simp [execOp, go_sem]) ?_
      simp only [Act.put, pS]
      refine og_ld (some 33) 32 (.tmp 32) (.pointer (some ⟨q1, 16, none⟩)) (.int .u64 M.pc) rfl rfl (by go_simp) rfl rfl (fun y hy => by have h := (show y.cell? ⟨q1, 16, none⟩ = some (.int .u64 M.pc) from IsTab.cell hy 16 (by decide)); simp [Instr.loadAt, go_sem, h, Tryd.underlying32]) ?_
      simp only [Act.put, pS]
      refine og_f rfl (by go_simp) fun K hK => ?_
      go_simp
      refine HC.out.mono ?_
      rintro e y8 ⟨he, hp⟩
      obtain rfl : e = _ := he
      have H8 : Hid (Dr w q1 q2 q6 q8 M R (Rl.putv (fun _ => bv 0#8) 0 M.pc 8) y8) := Lib.hid (HS9.out.put hp)
      refine hK _ _ H8.out.box ?_
      clear hK K hp
      try simp only [List.getElem_toArray, List.getElem_cons_succ, List.getElem_cons_zero, Act.put, pS]
      refine og_done (NoPanic.normal ?_)
      clear HS9 HC
      cases hh : M.halted
      · have k17 : y8.cell? ⟨q1, 17, none⟩ = some (.bool false) := by rw [← hh]; exact IsTab.cell H8.out.box 17 (by decide)
        go_upto_region 12 with (fail)
        have H9 : Hid (Dr w q1 q2 q6 q8 M R (Rl.putv (fun _ => bv 0#8) 0 M.pc 8) y8) := Lib.hid H8.out
        clear k17 H8
        generalize y8 = y9 at *
        have HS12 : Hid (Dr w q1 q2 q6 q8 M R (Rl.putv (fun _ => bv 0#8) 0 M.pc 8) y9.drew) := Lib.hid H9.out.drew
        clear H9
        refine wp_region_og (fun z : World => IsTab z q1 35 19 (hv M)) (.take 0 (.take 1 (.take 2 (.one 3 .done)))) (by kernel_rfl) (by kernel_rfl) (HS12.out.box) ?_
        generalize y9.drew = y10 at *
        have hc := Rl.put_walk y10 q8 31 32 32 (Rl.putv (fun _ => bv 0#8) 0 M.pc 8) 2 M.exit HS12.out.s8 (by decide) (by decide) HOK.out.2.2.1
        rw [show ((2 : Nat) : Int) = 2 from rfl] at hc
        have HC := Lib.hid hc
        clear hc
        refine og_tk (some 39) (.slice (some ⟨q8, 0, none⟩) 32 32) rfl rfl (by go_simp) (fun y hy => by have h := slHA q8 y; simp [execOp, go_sem, h, Result.andThen]) ?_
        simp only [Act.put, pS]
        refine og_tk (some 40) (.pointer (some ⟨q1, 18, none⟩)) rfl rfl (by go_simp) (fun _ _ => by simp [execOp, go_sem]) ?_
        simp only [Act.put, pS]
        refine og_ld (some 41) 32 (.tmp 40) (.pointer (some ⟨q1, 18, none⟩)) (.int .u64 M.exit) rfl rfl (by go_simp) rfl rfl (fun y hy => by have h := (show y.cell? ⟨q1, 18, none⟩ = some (.int .u64 M.exit) from IsTab.cell hy 18 (by decide)); simp [Instr.loadAt, go_sem, h, Tryd.underlying32]) ?_
        simp only [Act.put, pS]
        refine og_f rfl (by go_simp) fun K hK => ?_
        go_simp
        refine HC.out.mono ?_
        rintro e y11 ⟨he, hp⟩
        obtain rfl : e = _ := he
        have H11 : Hid (Dr w q1 q2 q6 q8 M R (Rl.putv (Rl.putv (fun _ => bv 0#8) 0 M.pc 8) 2 M.exit 8) y11) := Lib.hid (HS12.out.put hp)
        refine hK _ _ H11.out.box ?_
        clear hK K hp
        try simp only [List.getElem_toArray, List.getElem_cons_succ, List.getElem_cons_zero, Act.put, pS]
        refine og_done (NoPanic.normal ?_)
        clear HS12 HC
        obtain ⟨X, hX⟩ : ∃ X, fX (sel M.pc 0 M.exit 0) = X := ⟨_, rfl⟩
        have H12 : Hid (IsTab y11 q8 31 32 fun i => bv (X i)) := Lib.hid (by rw [← hX]; exact H11.out.s8.cong fun j hj => put2 M.pc M.exit j hj)
        have HX : Hid (hdX M = pr R X) := Lib.hid (by unfold hdX; rw [HRR.out, hh, ← hX]; rfl)
        clear hX hh
        have HL6 := Lib.hid (load32h H11.out.s6)
        have HL8 := Lib.hid (load32h H12.out)
        have HPR := Lib.hid (pair_dv R X y11 (ktab_below HOK.out.2.2.2 H11.out.below))
        go_wp2_with (first
          | ((with_reducible refine wpList_loadE (P := Tryd.prog) (w := y11) (ty := 31) (x := .tmp 6) (p := .pointer (some ⟨q6, 0, none⟩)) (v := dv R) ?_ ?_ ?_ HL6.out ?_); (· exact rfl); (· exact rfl); (· exact rfl))
          | ((with_reducible refine wpList_loadE (P := Tryd.prog) (w := y11) (ty := 31) (x := .tmp 8) (p := .pointer (some ⟨q8, 0, none⟩)) (v := dv X) ?_ ?_ ?_ HL8.out ?_); (· exact rfl); (· exact rfl); (· exact rfl))
          | (go_at_call 34; (with_reducible refine HPR.out.mono ?_); rintro e y13 ⟨he, hb⟩; obtain rfl : e = _ := he; have H13 : Hid (IsTab y13 q2 31 32 (fun _ => bv 0#8) ∧ Below w.heap.size w y13 ∧ w.heap.size ≤ q2) := Lib.hid ⟨H11.out.res.below hb, bl H11.out.below hb, by have := H11.out.ge; omega⟩; clear hb HPR)
          | ((with_reducible refine wpList_store_row (P := Tryd.prog) (w := y13) ?_ 31 (.tmp 2) (.tmp 45) ?_ q2 (tab 32 fun i => bv (pr R X i)) ?_ ?_ 31 (tab 32 fun _ => bv 0#8) ?_ (infH _) ?_ (one_bv _ _) ?_); (· exact rfl); (· exact rfl); (· exact rfl); (· exact rfl); (· exact H13.out.1); (· rw [tab_size, tab_size])))
        have hr : IsTab (World.setRow y13 q2 (tab 32 fun j => bv (pr R X j))) q2 31 32 fun j => bv (pr R X j) := H13.out.1.row
        exact bodyPost_ret (results_cell_row rfl _ _ q2 31 _ (0, 0) _ rfl hr undH rfl (infH _)) rfl ⟨by rw [HX.out]; rfl, below_setRow H13.out.2.1 H13.out.2.2 _⟩
      · have k17 : y8.cell? ⟨q1, 17, none⟩ = some (.bool true) := by rw [← hh]; exact IsTab.cell H8.out.box 17 (by decide)
        have s8 := slHA q8
        have hc := Rl.put_walk y8 q8 31 32 32 (Rl.putv (fun _ => bv 0#8) 0 M.pc 8) 1 1 H8.out.s8 (by decide) (by decide) (by decide)
        rw [show ((1 : Nat) : Int) = 1 from rfl] at hc
        have HC := Lib.hid hc
        clear hc
        go_upto_region 12 with (go_at_call 50; (with_reducible refine HC.out.mono ?_); rintro e y9 ⟨he, hp⟩; obtain rfl : e = _ := he; have H9 : Hid (Dr w q1 q2 q6 q8 M R (Rl.putv (Rl.putv (fun _ => bv 0#8) 0 M.pc 8) 1 1 8) y9) := Lib.hid (H8.out.put hp); clear hp)
        clear s8 k17 H8 HC
        have HS12 : Hid (Dr w q1 q2 q6 q8 M R (Rl.putv (Rl.putv (fun _ => bv 0#8) 0 M.pc 8) 1 1 8) y9.drew) := Lib.hid H9.out.drew
        clear H9
        refine wp_region_og (fun z : World => IsTab z q1 35 19 (hv M)) (.take 0 (.take 1 (.take 2 (.one 3 .done)))) (by kernel_rfl) (by kernel_rfl) (HS12.out.box) ?_
        generalize y9.drew = y10 at *
        have hc := Rl.put_walk y10 q8 31 32 32 (Rl.putv (Rl.putv (fun _ => bv 0#8) 0 M.pc 8) 1 1 8) 2 M.exit HS12.out.s8 (by decide) (by decide) HOK.out.2.2.1
        rw [show ((2 : Nat) : Int) = 2 from rfl] at hc
        have HC := Lib.hid hc
        clear hc
        refine og_tk (some 39) (.slice (some ⟨q8, 0, none⟩) 32 32) rfl rfl (by go_simp) (fun y hy => by have h := slHA q8 y; simp [execOp, go_sem, h, Result.andThen]) ?_
        simp only [Act.put, pS]
        refine og_tk (some 40) (.pointer (some ⟨q1, 18, none⟩)) rfl rfl (by go_simp) (fun _ _ => by simp [execOp, go_sem]) ?_
        simp only [Act.put, pS]
        refine og_ld (some 41) 32 (.tmp 40) (.pointer (some ⟨q1, 18, none⟩)) (.int .u64 M.exit) rfl rfl (by go_simp) rfl rfl (fun y hy => by have h := (show y.cell? ⟨q1, 18, none⟩ = some (.int .u64 M.exit) from IsTab.cell hy 18 (by decide)); simp [Instr.loadAt, go_sem, h, Tryd.underlying32]) ?_
        simp only [Act.put, pS]
        refine og_f rfl (by go_simp) fun K hK => ?_
        go_simp
        refine HC.out.mono ?_
        rintro e y11 ⟨he, hp⟩
        obtain rfl : e = _ := he
        have H11 : Hid (Dr w q1 q2 q6 q8 M R (Rl.putv (Rl.putv (Rl.putv (fun _ => bv 0#8) 0 M.pc 8) 1 1 8) 2 M.exit 8) y11) := Lib.hid (HS12.out.put hp)
        refine hK _ _ H11.out.box ?_
        clear hK K hp
        try simp only [List.getElem_toArray, List.getElem_cons_succ, List.getElem_cons_zero, Act.put, pS]
        refine og_done (NoPanic.normal ?_)
        clear HS12 HC
        obtain ⟨X, hX⟩ : ∃ X, fX (sel M.pc 1 M.exit 0) = X := ⟨_, rfl⟩
        have H12 : Hid (IsTab y11 q8 31 32 fun i => bv (X i)) := Lib.hid (by rw [← hX]; exact H11.out.s8.cong fun j hj => put3 M.pc 1 M.exit j hj)
        have HX : Hid (hdX M = pr R X) := Lib.hid (by unfold hdX; rw [HRR.out, hh, ← hX]; rfl)
        clear hX hh
        have HL6 := Lib.hid (load32h H11.out.s6)
        have HL8 := Lib.hid (load32h H12.out)
        have HPR := Lib.hid (pair_dv R X y11 (ktab_below HOK.out.2.2.2 H11.out.below))
        go_wp2_with (first
          | ((with_reducible refine wpList_loadE (P := Tryd.prog) (w := y11) (ty := 31) (x := .tmp 6) (p := .pointer (some ⟨q6, 0, none⟩)) (v := dv R) ?_ ?_ ?_ HL6.out ?_); (· exact rfl); (· exact rfl); (· exact rfl))
          | ((with_reducible refine wpList_loadE (P := Tryd.prog) (w := y11) (ty := 31) (x := .tmp 8) (p := .pointer (some ⟨q8, 0, none⟩)) (v := dv X) ?_ ?_ ?_ HL8.out ?_); (· exact rfl); (· exact rfl); (· exact rfl))
          | (go_at_call 34; (with_reducible refine HPR.out.mono ?_); rintro e y13 ⟨he, hb⟩; obtain rfl : e = _ := he; have H13 : Hid (IsTab y13 q2 31 32 (fun _ => bv 0#8) ∧ Below w.heap.size w y13 ∧ w.heap.size ≤ q2) := Lib.hid ⟨H11.out.res.below hb, bl H11.out.below hb, by have := H11.out.ge; omega⟩; clear hb HPR)
          | ((with_reducible refine wpList_store_row (P := Tryd.prog) (w := y13) ?_ 31 (.tmp 2) (.tmp 45) ?_ q2 (tab 32 fun i => bv (pr R X i)) ?_ ?_ 31 (tab 32 fun _ => bv 0#8) ?_ (infH _) ?_ (one_bv _ _) ?_); (· exact rfl); (· exact rfl); (· exact rfl); (· exact rfl); (· exact H13.out.1); (· rw [tab_size, tab_size])))
        have hr : IsTab (World.setRow y13 q2 (tab 32 fun j => bv (pr R X j))) q2 31 32 fun j => bv (pr R X j) := H13.out.1.row
        exact bodyPost_ret (results_cell_row rfl _ _ q2 31 _ (0, 0) _ rfl hr undH rfl (infH _)) rfl ⟨by rw [HX.out]; rfl, below_setRow H13.out.2.1 H13.out.2.2 _⟩
end Co
end Go.Proofs.YtnaamljflcgepaaDoor
namespace Go.Proofs.YtnaamljflcgepaaDoor
open Go.RowKit
set_option linter.unusedVariables false
set_option linter.unusedSimpArgs false
namespace Co
open Kc Mk Vm
theorem loadHd {w : World} {q : Nat} {M : Mac} (h : IsTab w q 35 19 (hv M)) : (Instr.loadAt 35 (.pointer (some ⟨q, 0, none⟩))).run Tryd.prog w = .ok (.agg (tab 19 (hv M))) w := by
  refine run_loadAt_mid w q 0 _ ((List.range 19).map (Co.hv M)) _ (fun j v hv => ?_) undHd rfl (by rw [List.length_map, List.length_range]; exact infHd')
  obtain ⟨hj, rfl⟩ := List.getElem?_eq_some_iff.1 hv
  simp only [List.length_map, List.length_range] at hj
  have := IsTab.cell h j hj
  simpa using this
/-- Words that are words. -/
def OkW (M : Mac) : Prop := (∀ i, M.reg i < 18446744073709551616) ∧ M.pc < 18446744073709551616 ∧ M.exit < 18446744073709551616
/-- The commitment. -/
def ofX (M : Mac) : Hx := pr (mroot M) (hdX M)
set_option maxHeartbeats 8000000 in
set_option maxRecDepth 100000 in
theorem join_walk (w : World) (r : Hx) (M : Mac) (hok : OkW M) (ht : Laid.KTab w) :
    Calls Tryd.prog 19 #[dv r, .agg (tab 19 (hv M))] w fun e w' => e = .returned (dv (pr r (hdX M))) ∧ Below w.heap.size w w' := by
  have HOK := Lib.hid hok
  have HKT := Lib.hid ht
  clear hok ht
  have z2 := zeroHash
  have HBH := Lib.hid (fun u : World => buildH0 u)
  generalize hz : (tab 32 fun _ => bv 0#8) = zh at *
  have HZ := Lib.hid hz
  clear hz
  have HZI : Hid ((Tryd.prog.info? 31).map (·.size) = some zh.size ∧ zh.all (·.oneCell') = true ∧ zh.size = 32) := Lib.hid ⟨by rw [← HZ.out]; exact infH _, by rw [← HZ.out]; exact one_bv _ _, by rw [← HZ.out, tab_size]⟩
  obtain ⟨hd, hhd⟩ : ∃ hd, tab 19 (hv M) = hd := ⟨_, rfl⟩
  have HHD := Lib.hid hhd
  rw [hhd]
  clear hhd
  unfold dv
  obtain ⟨rh, hrh⟩ : ∃ rh, (tab 32 fun i => bv (r i)) = rh := ⟨_, rfl⟩
  have HRH := Lib.hid hrh
  rw [hrh]
  clear hrh
  go_enter Tryd.func19, Tryd.ntmps19
  go_upto_region 1 with (fail)
  have H0 : Hid (IsTab (((w.alloc (.cells rh 31)).alloc (.cells hd 35)).alloc (.cells zh 31)) w.heap.size 31 32 (fun i => bv (r i)) ∧ IsTab (((w.alloc (.cells rh 31)).alloc (.cells hd 35)).alloc (.cells zh 31)) (w.heap.size + 1) 35 19 (hv M) ∧ IsTab (((w.alloc (.cells rh 31)).alloc (.cells hd 35)).alloc (.cells zh 31)) (w.heap.size + 2) 31 32 (fun _ => bv 0#8) ∧ Below w.heap.size w (((w.alloc (.cells rh 31)).alloc (.cells hd 35)).alloc (.cells zh 31))) := Lib.hid (by
    have e1 : (w.alloc (.cells rh 31)).heap.size = w.heap.size + 1 := by simp
    have e2 : ((w.alloc (.cells rh 31)).alloc (.cells hd 35)).heap.size = w.heap.size + 2 := by simp
    refine ⟨((?_ : IsTab (w.alloc (.cells rh 31)) w.heap.size 31 32 fun i => bv (r i)).alloc _).alloc _, IsTab.alloc ?_ _, ?_, (((Below.refl _ _).alloc (Nat.le_refl _) _).alloc (by simp) _).alloc (by simp; omega) _⟩
    · rw [← HRH.out]; exact IsTab.new w 31 32 _
    · have h := IsTab.new (w.alloc (.cells rh 31)) 35 19 (hv M)
      rw [e1] at h; rw [← HHD.out]; exact h
    · have h := put_new ((w.alloc (.cells rh 31)).alloc (.cells hd 35)) (fun _ => 0#8) zh HZ.out
      rw [e2] at h; exact h)
  generalize ((w.alloc (.cells rh 31)).alloc (.cells hd 35)).alloc (.cells zh 31) = y0 at *
  have HNE : Hid (w.heap.size ≤ w.heap.size + 2 ∧ w.heap.size ≠ w.heap.size + 2 ∧ w.heap.size + 1 ≠ w.heap.size + 2) := Lib.hid ⟨by omega, by omega, by omega⟩
  generalize w.heap.size + 2 = q4 at *
  generalize w.heap.size + 1 = q3 at *
  generalize hq : w.heap.size = q2 at *
  have HQ := Lib.hid hq
  clear hq
  have HS : Hid ((fun z : World => IsTab z q2 31 32 (fun i => bv (r i)) ∧ IsTab z q3 35 19 (hv M)) y0.drew) := Lib.hid ⟨H0.out.1, H0.out.2.1⟩
  have HR4 : Hid (IsTab y0.drew q4 31 32 (fun _ => bv 0#8)) := Lib.hid H0.out.2.2.1
  have HB : Hid (Below w.heap.size w y0.drew) := Lib.hid (by rw [HQ.out]; exact H0.out.2.2.2.drew)
  have HNE : Hid (w.heap.size ≤ q4 ∧ q2 ≠ q4 ∧ q3 ≠ q4) := Lib.hid (by rw [HQ.out]; exact HNE.out)
  clear H0
  refine wp_region_og (fun z : World => IsTab z q2 31 32 (fun i => bv (r i)) ∧ IsTab z q3 35 19 (hv M)) (.take 0 (.take 1 (.one 2 (.one 3 (.one 4 .done))))) (by kernel_rfl) (by kernel_rfl) (HS.out) ?_
  generalize y0.drew = y1 at *
  have HD := Lib.hid (digest_walk y1 M HOK.out.1 HOK.out.2.1 HOK.out.2.2 (ktab_below HKT.out HB.out))
  refine og_ld (some 5) 31 (.tmp 2) (.pointer (some ⟨q2, 0, none⟩)) (dv r) rfl rfl (by go_simp) rfl rfl (fun y hy => load32h hy.1) ?_
  simp only [Act.put, pS]
  refine og_ld (some 6) 35 (.tmp 3) (.pointer (some ⟨q3, 0, none⟩)) (.agg (tab 19 (hv M))) rfl rfl (by go_simp) rfl rfl (fun y hy => loadHd hy.2) ?_
  simp only [Act.put, pS]
  refine og_f rfl (by go_simp) fun K hK => ?_
  go_simp
  refine HD.out.mono ?_
  rintro e y2 ⟨he, hb⟩
  obtain rfl : e = _ := he
  have H2 : Hid (IsTab y2 q2 31 32 (fun i => bv (r i)) ∧ IsTab y2 q3 35 19 (hv M) ∧ IsTab y2 q4 31 32 (fun _ => bv 0#8) ∧ Below w.heap.size w y2) := Lib.hid ⟨HS.out.1.below hb, HS.out.2.below hb, HR4.out.below hb, bl HB.out hb⟩
  refine hK _ _ ⟨H2.out.1, H2.out.2.1⟩ ?_
  clear hK K hb HD HS HR4 HB
  try simp only [List.getElem_toArray, List.getElem_cons_succ, List.getElem_cons_zero, Act.put, pS]
  have HPR := Lib.hid (pair_dv r (hdX M) y2 (ktab_below HKT.out H2.out.2.2.2))
  refine og_f rfl (by go_simp) fun K hK => ?_
  go_simp
  refine HPR.out.mono ?_
  rintro e y3 ⟨he, hb⟩
  obtain rfl : e = _ := he
  have H3 : Hid (IsTab y3 q2 31 32 (fun i => bv (r i)) ∧ IsTab y3 q3 35 19 (hv M) ∧ IsTab y3 q4 31 32 (fun _ => bv 0#8) ∧ Below w.heap.size w y3) := Lib.hid ⟨H2.out.1.below hb, H2.out.2.1.below hb, H2.out.2.2.1.below hb, bl H2.out.2.2.2 hb⟩
  refine hK _ _ ⟨H3.out.1, H3.out.2.1⟩ ?_
  clear hK K hb HPR H2
  try simp only [List.getElem_toArray, List.getElem_cons_succ, List.getElem_cons_zero, Act.put, pS]
  refine og_f rfl (by go_simp) fun K hK => ?_
  refine wp_store_row 31 (.tmp 4) (.tmp 8) rfl q4 (tab 32 fun i => bv (pr r (hdX M) i)) rfl rfl 31 (tab 32 fun _ => bv 0#8) H3.out.2.2.1 (infH _) (by rw [tab_size, tab_size]) (one_bv _ _) ?_
  have H4 : Hid (IsTab (y3.setRow q4 (tab 32 fun i => bv (pr r (hdX M) i))) q4 31 32 (fun i => bv (pr r (hdX M) i)) ∧ Below w.heap.size w (y3.setRow q4 (tab 32 fun i => bv (pr r (hdX M) i)))) := Lib.hid ⟨H3.out.2.2.1.row, below_setRow H3.out.2.2.2 HNE.out.1 _⟩
  refine hK _ _ ⟨IsTab.rowOther H3.out.1 HNE.out.2.1, IsTab.rowOther H3.out.2.1 HNE.out.2.2⟩ ?_
  clear hK K H3
  try simp only [List.getElem_toArray, List.getElem_cons_succ, List.getElem_cons_zero, Act.put, pS]
  refine og_done (NoPanic.normal ?_)
  generalize y3.setRow q4 (tab 32 fun i => bv (pr r (hdX M) i)) = y4 at *
  go_wp2_with (fail)
  exact bodyPost_ret (results_cell_row rfl _ _ q4 31 _ (0, 0) _ rfl H4.out.1 undH rfl (infH _)) rfl ⟨rfl, H4.out.2⟩
set_option maxHeartbeats 8000000 in
set_option maxRecDepth 100000 in
theorem of_ok (w : World) (b : Nat) (M : Mac) (hm : IsMac w b M) (hmem : ∀ i, M.mem i < 18446744073709551616) (hok : OkW M) (ht : Laid.KTab w) :
    Calls Tryd.prog 8 #[.pointer (some ⟨b, 0, none⟩)] w fun e w' => e = .returned (.tuple #[dv (ofX M), .nilIface]) ∧ Below w.heap.size w w' := by
  have HOK := Lib.hid (And.intro hmem (And.intro hok ht))
  have HM := Lib.hid hm
  clear hmem hok ht hm
  have zHd := zeroHd
  have hzs : (tab 19 (hv m0)).size = 19 := tab_size _ _
  have hin := infHd m0
  have hon := oneHd m0
  generalize hz : (tab 19 (hv m0)) = zd at *
  have HZS := Lib.hid (And.intro hzs (And.intro hin hon))
  clear hzs hz hin hon
  have z2 := zeroHash
  have HBH := Lib.hid (fun u : World => buildH0 u)
  generalize hz : (tab 32 fun _ => bv 0#8) = zh at *
  have HZ := Lib.hid hz
  clear hz
  have HZI : Hid ((Tryd.prog.info? 31).map (·.size) = some zh.size ∧ zh.all (·.oneCell') = true ∧ zh.size = 32) := Lib.hid ⟨by rw [← HZ.out]; exact infH _, by rw [← HZ.out]; exact one_bv _ _, by rw [← HZ.out, tab_size]⟩
  go_enter Tryd.func8, Tryd.ntmps8
  go_upto_region 1 with (fail)
  have H0 : Hid (IsMac (w.alloc (.cells zh 31)) b M ∧ IsTab (w.alloc (.cells zh 31)) w.heap.size 31 32 (fun _ => bv 0#8) ∧ Below w.heap.size w (w.alloc (.cells zh 31))) := Lib.hid ⟨HM.out.below (ba _ _), put_new w (fun _ => 0#8) zh HZ.out, ba _ _⟩
  clear HM
  generalize w.alloc (.cells zh 31) = y0 at *
  have HW : Hid (w.heap.size ≤ w.heap.size) := Lib.hid (Nat.le_refl _)
  generalize hq : w.heap.size = q2 at *
  have HQ := Lib.hid hq
  clear hq
  have HRO := Lib.hid (Root_walk y0 b M H0.out.1 HOK.out.1 (ktab_below HOK.out.2.2 (by rw [HQ.out]; exact H0.out.2.2)))
  go_upto_region 2 with (first
    | (go_at_call 15; (with_reducible refine HRO.out.mono ?_); rintro e y1 ⟨he, hb⟩; obtain rfl : e = _ := he; have HB1 := Lib.hid hb; clear hb HRO)
    | ((with_reducible refine wpList_store_row (P := Tryd.prog) (w := y1.alloc (.cells zh 31)) ?_ 31 (.tmp 4) (.tmp 10) ?_ y1.heap.size (tab 32 fun i => bv (mroot M i)) ?_ ?_ 31 zh (heap_alloc_last y1 _) (infH _) ?_ (one_bv _ _) ?_); (· exact rfl); (· exact rfl); (· exact rfl); (· exact rfl); (· rw [HZI.out.2.2, tab_size]); rw [World.setRow_alloc_new]; simp only [Act.put]))
  have H2 : Hid (IsMac (y1.alloc (.cells (tab 32 fun i => bv (mroot M i)) 31)) b M ∧ IsTab (y1.alloc (.cells (tab 32 fun i => bv (mroot M i)) 31)) q2 31 32 (fun _ => bv 0#8) ∧ Below w.heap.size w (y1.alloc (.cells (tab 32 fun i => bv (mroot M i)) 31)) ∧ IsTab (y1.alloc (.cells (tab 32 fun i => bv (mroot M i)) 31)) y1.heap.size 31 32 (fun i => bv (mroot M i))) := Lib.hid ⟨(H0.out.1.below HB1.out).below (ba _ _), (H0.out.2.1.below HB1.out).below (ba _ _), bl (bl (by rw [HQ.out]; exact H0.out.2.2) HB1.out) (ba _ _), IsTab.new y1 _ 32 _⟩
  clear H0 HB1
  generalize y1.alloc (.cells (tab 32 fun i => bv (mroot M i)) 31) = y2 at *
  generalize y1.heap.size = q4 at *
  have HHO := Lib.hid (HeadOf_ok y2 b M H2.out.1)
  go_upto_region 5 with (first
    | (go_at_call 16; (with_reducible refine HHO.out.mono ?_); rintro e y3 ⟨he, hb⟩; obtain rfl : e = _ := he; have HB3 := Lib.hid hb; clear hb HHO)
    | ((with_reducible refine wpList_store_row (P := Tryd.prog) (w := y3.alloc (.cells zd 35)) ?_ 35 (.tmp 6) (.tmp 19) ?_ y3.heap.size (tab 19 (hv M)) ?_ ?_ 35 zd (heap_alloc_last y3 _) (infHd M) ?_ (oneHd M) ?_); (· exact rfl); (· exact rfl); (· exact rfl); (· exact rfl); (· rw [HZS.out.1, tab_size]); rw [World.setRow_alloc_new]; simp only [Act.put]))
  have H4 : Hid (IsTab (y3.alloc (.cells (tab 19 (hv M)) 35)) q2 31 32 (fun _ => bv 0#8) ∧ Below w.heap.size w (y3.alloc (.cells (tab 19 (hv M)) 35)) ∧ IsTab (y3.alloc (.cells (tab 19 (hv M)) 35)) q4 31 32 (fun i => bv (mroot M i)) ∧ IsTab (y3.alloc (.cells (tab 19 (hv M)) 35)) y3.heap.size 35 19 (hv M)) := Lib.hid ⟨(H2.out.2.1.below HB3.out).below (ba _ _), bl (bl H2.out.2.2.1 HB3.out) (ba _ _), (H2.out.2.2.2.below HB3.out).below (ba _ _), IsTab.new y3 35 19 (hv M)⟩
  clear H2 HB3
  generalize y3.alloc (.cells (tab 19 (hv M)) 35) = y4 at *
  generalize y3.heap.size = q6 at *
  have HL4 := Lib.hid (load32h H4.out.2.2.1)
  have HL6 := Lib.hid (loadHd H4.out.2.2.2)
  have HJ := Lib.hid (join_walk y4 (mroot M) M HOK.out.2.1 (ktab_below HOK.out.2.2 H4.out.2.1))
  go_wp2_with (first
    | ((with_reducible refine wpList_loadE (P := Tryd.prog) (w := y4) (ty := 31) (x := .tmp 4) (p := .pointer (some ⟨q4, 0, none⟩)) (v := dv (mroot M)) ?_ ?_ ?_ HL4.out ?_); (· exact rfl); (· exact rfl); (· exact rfl))
    | ((with_reducible refine wpList_loadE (P := Tryd.prog) (w := y4) (ty := 35) (x := .tmp 6) (p := .pointer (some ⟨q6, 0, none⟩)) (v := .agg (tab 19 (hv M))) ?_ ?_ ?_ HL6.out ?_); (· exact rfl); (· exact rfl); (· exact rfl))
    | (go_at_call 19; (with_reducible refine HJ.out.mono ?_); rintro e y5 ⟨he, hb⟩; obtain rfl : e = _ := he; have H5 : Hid (IsTab y5 q2 31 32 (fun _ => bv 0#8) ∧ Below w.heap.size w y5) := Lib.hid ⟨H4.out.1.below hb, bl H4.out.2.1 hb⟩; clear hb HJ)
    | ((with_reducible refine wpList_store_row (P := Tryd.prog) (w := y5) ?_ 31 (.tmp 2) (.tmp 27) ?_ q2 (tab 32 fun i => bv (pr (mroot M) (hdX M) i)) ?_ ?_ 31 (tab 32 fun _ => bv 0#8) ?_ (infH _) ?_ (one_bv _ _) ?_); (· exact rfl); (· exact rfl); (· exact rfl); (· exact rfl); (· exact H5.out.1); (· rw [tab_size, tab_size])))
  have hr : IsTab (World.setRow y5 q2 (tab 32 fun j => bv (pr (mroot M) (hdX M) j))) q2 31 32 fun j => bv (pr (mroot M) (hdX M) j) := H5.out.1.row
  exact bodyPost_ret (Kc.results_cell_tmp rfl _ _ q2 31 _ (0, 0) _ rfl hr undH rfl (infH _) .nilIface rfl) rfl ⟨rfl, below_setRow H5.out.2 (by rw [HQ.out]; exact Nat.le_refl _) _⟩
end Co
end Go.Proofs.YtnaamljflcgepaaDoor
