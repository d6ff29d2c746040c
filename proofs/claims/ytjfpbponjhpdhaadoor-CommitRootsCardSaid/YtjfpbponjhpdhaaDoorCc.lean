/-
  Layer 11: Holds, Write. Written by genCc.py. Own work.
-/
import Derived.Test.YtjfpbponjhpdhaaDoorCb
namespace Go.Proofs.YtjfpbponjhpdhaaDoor
open Go.RowKit
set_option linter.unusedVariables false
set_option linter.unusedSimpArgs false
namespace Co
open Kc Mk Vm
set_option maxHeartbeats 2000000 in
set_option maxRecDepth 100000 in
theorem Holds_ok (w : World) (r : Hx) (i v c : Nat) (a : Option Addr) (p : Nat → Hx) (hs : IsHs w a 13 p) (hc : 13 ≤ c) (hi : i < 8192) (hv : v < 18446744073709551616) (ht : Laid.KTab w) :
    Calls Tryd.prog 35 #[.agg (tab 32 fun i => bv (r i)), .int .u64 i, .agg #[.int .u64 v, .slice a 13 c]] w fun e w' => e = .returned (.tuple #[.bool (same32 (fold i (lfX v) p 13) r), .nilIface]) ∧ Below w.heap.size w w' := by
  have t1 : decide (8192 ≤ (i : Int)) = false := by simp; omega
  have HE1 : Hid (IntKind.i64.wrap (i : Int) = (i : Int)) := Lib.hid (by simp [IntKind.wrap, IntKind.bits, IntKind.signed, IntKind.min, IntKind.max]; omega)
  have HV0 := Lib.hid (And.intro hs (And.intro hv (And.intro hc (And.intro hi ht))))
  clear hs hv hc hi ht
  have HW : Hid (IsTab ((w.alloc (.cells (tab 32 fun i => bv (r i)) 42)).alloc (.cells #[.int .u64 v, .slice a 13 c] 54)) w.heap.size 42 32 (fun i => bv (r i)) ∧ Box2 ((w.alloc (.cells (tab 32 fun i => bv (r i)) 42)).alloc (.cells #[.int .u64 v, .slice a 13 c] 54)) (w.heap.size + 1) 54 (.int .u64 v) (.slice a 13 c) ∧ Below w.heap.size w ((w.alloc (.cells (tab 32 fun i => bv (r i)) 42)).alloc (.cells #[.int .u64 v, .slice a 13 c] 54))) := Lib.hid (by
    have e1 : (w.alloc (.cells (tab 32 fun i => bv (r i)) 42)).heap.size = w.heap.size + 1 := by simp
    refine ⟨(IsTab.new w 42 32 _).alloc _, ?_, (ba _ _).alloc (by simp) _⟩
    have h := Box2.new (w.alloc (.cells (tab 32 fun i => bv (r i)) 42)) 54 (.int .u64 v) (.slice a 13 c)
    rw [e1] at h; exact h)
  have z2 := zeroHash
  generalize hz : (tab 32 fun _ => bv 0#8) = zh at *
  have HZ := Lib.hid hz
  clear hz
  go_enter Tryd.func35, Tryd.ntmps35
  go_upto_region 1 with (fail)
  generalize (w.alloc (.cells (tab 32 fun i => bv (r i)) 42)).alloc (.cells #[.int .u64 v, .slice a 13 c] 54) = y0 at *
  have HB3 := Lib.hid HW.out.1
  have HB5 := Lib.hid HW.out.2.1
  have HB0 : Hid (Below w.heap.size w y0 ∧ Below y0.heap.size y0 y0) := Lib.hid ⟨HW.out.2.2, Below.refl _ _⟩
  have HV : Hid (IsHs y0 a 13 p ∧ v < 18446744073709551616 ∧ 13 ≤ c ∧ i < 8192 ∧ Laid.KTab w) := Lib.hid ⟨HV0.out.1.below HW.out.2.2, HV0.out.2.1, HV0.out.2.2.1, HV0.out.2.2.2.1, HV0.out.2.2.2.2⟩
  clear HW HV0
  generalize w.heap.size + 1 = q5 at *
  generalize hq : w.heap.size = q3 at *
  have HQ := Lib.hid hq
  clear hq
  have k1 := HB5.out.k1
  go_upto_region 5 with (fail)
  clear k1 t1
  refine wp_region_og (fun z : World => Below y0.heap.size y0 z) (.take 0 (.take 1 (.take 2 (.take 3 (.take 5 (.take 6 (.two 4 (.two 7 (.take 8 (.take 9 (.take 10 (.one 11 (.one 12 (.take 13 .done)))))) 11 (.one 7 (.take 8 (.take 9 (.take 10 (.one 12 (.take 13 .done))))))) 11 (.one 4 (.one 7 (.take 8 (.take 9 (.take 10 (.one 12 (.take 13 .done)))))))))))))) (by kernel_rfl) (by kernel_rfl) (Below.refl _ _).drew ?_
  have HY : Hid (Below y0.heap.size y0 y0.drew ∧ True) := Lib.hid ⟨(Below.refl _ _).drew, trivial⟩
  generalize y0.drew = y1 at *
  refine og_tk (some 19) (.int .u64 i) rfl rfl (by go_simp) (fun _ _ => by simp [execOp, go_sem]) ?_
  simp only [Act.put, pS]
  refine og_tk (some 20) (.int .i64 i) rfl rfl (by go_simp) (fun _ _ => by simp [execOp, go_sem, HE1.out]) ?_
  simp only [Act.put, pS]
  refine og_tk (some 21) (.pointer (some ⟨q5, 0, none⟩)) rfl rfl (by go_simp) (fun _ _ => by simp [execOp, go_sem]) ?_
  simp only [Act.put, pS]
  refine og_ld (some 22) 33 (.tmp 21) (.pointer (some ⟨q5, 0, none⟩)) (.int .u64 v) rfl rfl (by go_simp) rfl rfl (fun y hy => by have h := keep1 hy HB5.out.k0; simp [Instr.loadAt, go_sem, h, Tryd.underlying33]) ?_
  simp only [Act.put, pS]
  refine og_tk (some 24) (.pointer (some ⟨q5, 1, none⟩)) rfl rfl (by go_simp) (fun _ _ => by simp [execOp, go_sem]) ?_
  simp only [Act.put, pS]
  refine og_ld (some 25) 52 (.tmp 24) (.pointer (some ⟨q5, 1, none⟩)) (.slice a 13 c) rfl rfl (by go_simp) rfl rfl (fun y hy => by have h := keep1 hy HB5.out.k1; simp [Instr.loadAt, go_sem, h, Tryd.underlying52]) ?_
  simp only [Act.put, pS]
  refine og_two (og_of rfl (by go_simp) fun K hK => ?_) (og_of rfl (by go_simp) fun K hK => ?_)
  · have HLF := Lib.hid (leaf_walk y1 v HV.out.2.1)
    go_simp
    refine HLF.out.mono ?_
    rintro e y2 ⟨he, hb⟩
    obtain rfl : e = _ := he
    have HY : Hid (Below y0.heap.size y0 y2 ∧ True) := Lib.hid ⟨bl HY.out.1 hb, trivial⟩
    clear hb
    try clear HLF
    try clear HFO
    refine hK _ _ HY.out.1 ?_
    clear hK K
    try simp only [List.getElem_toArray, List.getElem_cons_succ, List.getElem_cons_zero, Act.put, pS]
    refine og_two (og_of rfl (by go_simp) fun K hK => ?_) (og_of rfl (by go_simp) fun K hK => ?_)
    · have HFO := Lib.hid (fold_ok i (lfX v) a 13 c p y2 (HV.out.1.below (bl HB0.out.2 HY.out.1)) HV.out.2.2.1 (by decide) HV.out.2.2.2.1 (ktab_below HV.out.2.2.2.2 (HQ.out ▸ HB0.out.1.trans (HY.out.1.mono (by have := HB0.out.1.size; have := HQ.out; omega)))))
      go_simp
      refine HFO.out.mono ?_
      rintro e y3 ⟨he, hb⟩
      obtain rfl : e = _ := he
      have HY : Hid (Below y0.heap.size y0 y3 ∧ True) := Lib.hid ⟨bl HY.out.1 hb, trivial⟩
      clear hb
      try clear HLF
      try clear HFO
      refine hK _ _ HY.out.1 ?_
      clear hK K
      try simp only [List.getElem_toArray, List.getElem_cons_succ, List.getElem_cons_zero, Act.put, pS]
      refine og_tk (some 18) (.tuple #[dv (fold i (lfX v) p 13), .nilIface]) rfl rfl (by go_simp) (fun _ _ => by simp [execOp, go_sem]) ?_
      simp only [Act.put, pS]
      refine og_tk (some 27) (dv (fold i (lfX v) p 13)) rfl rfl (by go_simp) (fun _ _ => by simp [execOp, go_sem]) ?_
      simp only [Act.put, pS]
      refine og_tk (some 28) (.nilIface) rfl rfl (by go_simp) (fun _ _ => by simp [execOp, go_sem]) ?_
      simp only [Act.put, pS]
      refine og_f rfl (by go_simp) fun K hK => ?_
      go_simp
      have HY : Hid (Below y0.heap.size y0 (y3.alloc (.cells zh 42)) ∧ IsTab (y3.alloc (.cells zh 42)) y3.heap.size 42 32 (fun _ => bv 0#8) ∧ y0.heap.size ≤ y3.heap.size) := Lib.hid ⟨HY.out.1.alloc HY.out.1.size _, put_new y3 (fun _ => 0#8) zh HZ.out, HY.out.1.size⟩
      refine hK _ _ HY.out.1 ?_
      clear hK K
      generalize y3.alloc (.cells zh 42) = y4 at *
      generalize y3.heap.size = q8 at *
      try simp only [List.getElem_toArray, List.getElem_cons_succ, List.getElem_cons_zero, Act.put, pS]
      refine og_f rfl (by go_simp) fun K hK => ?_
      refine wp_store_row 42 (.tmp 8) (.tmp 27) rfl q8 (tab 32 fun j => bv ((fold i (lfX v) p 13) j)) rfl rfl 42 _ (HY.out.2.1) (infH _) (by simp only [tab_size]) (one_bv _ _) ?_
      have HE : Hid (IsTab (y4.setRow q8 (tab 32 fun j => bv ((fold i (lfX v) p 13) j))) q8 42 32 (fun j => bv ((fold i (lfX v) p 13) j)) ∧ IsTab (y4.setRow q8 (tab 32 fun j => bv ((fold i (lfX v) p 13) j))) q3 42 32 (fun j => bv (r j)) ∧ Below q3 w (y4.setRow q8 (tab 32 fun j => bv ((fold i (lfX v) p 13) j)))) := Lib.hid (by
        have hq8 := HY.out.2.2
        have hq3 := HB0.out.2
        have hlt := HB3.out.lt
        refine ⟨HY.out.2.1.row, (HB3.out.below (HY.out.1.mono (Nat.le_refl _))).rowOther (by omega), below_setRow (HB0.out.1.trans (HY.out.1.mono (by have := HB0.out.1.size; have := HQ.out; omega))) (by omega) _⟩)
      refine hK _ _ (below_setRow HY.out.1 HY.out.2.2 _) ?_
      clear hK K
      try simp only [List.getElem_toArray, List.getElem_cons_succ, List.getElem_cons_zero, Act.put, pS]
      generalize y4.setRow q8 (tab 32 fun j => bv ((fold i (lfX v) p 13) j)) = y9 at *
      refine og_tk (some 9) (.nilIface) rfl rfl (by go_simp) (fun _ _ => by simp [execOp, go_sem]) ?_
      simp only [Act.put, pS]
      refine og_done (NoPanic.normal ?_)
      have D8 := Lib.hid (load32h HE.out.1)
      have D3 := Lib.hid (load32h HE.out.2.1)
      go_wp2_with (first
        | ((with_reducible refine wpList_loadG (P := Tryd.prog) (w := y9) (ty := 42) (x := .tmp 8) (p := .pointer (some ⟨q8, 0, none⟩)) (v := dv (fold i (lfX v) p 13)) ?_ ?_ ?_ D8.out ?_); rotate_left; (· exact rfl); (· exact rfl); rotate_left; (· go_simp))
        | ((with_reducible refine wpList_loadG (P := Tryd.prog) (w := y9) (ty := 42) (x := .tmp 3) (p := .pointer (some ⟨q3, 0, none⟩)) (v := dv r) ?_ ?_ ?_ D3.out ?_); rotate_left; (· exact rfl); (· exact rfl); rotate_left; (· go_simp))
        | (refine wpList_eqG (by go_simp) (.tmp 32) (.tmp 33) 42 (fold i (lfX v) p 13) r rfl rfl rfl ?_))
      exact bodyPost_ret (v := .tuple #[.bool (same32 (fold i (lfX v) p 13) r), .nilIface]) (by simp [results, Tryd.results35, go_sem]) rfl ⟨rfl, by rw [HQ.out]; exact HE.out.2.2⟩
    · go_simp
      have HY : Hid (Below y0.heap.size y0 (y2.alloc (.cells zh 42)) ∧ IsTab (y2.alloc (.cells zh 42)) y2.heap.size 42 32 (fun _ => bv 0#8) ∧ y0.heap.size ≤ y2.heap.size) := Lib.hid ⟨HY.out.1.alloc HY.out.1.size _, put_new y2 (fun _ => 0#8) zh HZ.out, HY.out.1.size⟩
      refine hK _ _ HY.out.1 ?_
      clear hK K
      generalize y2.alloc (.cells zh 42) = y3 at *
      generalize y2.heap.size = q8 at *
      try simp only [List.getElem_toArray, List.getElem_cons_succ, List.getElem_cons_zero, Act.put, pS]
      refine og_f rfl (by go_simp) fun K hK => ?_
      have HFO := Lib.hid (fold_ok i (lfX v) a 13 c p y3 (HV.out.1.below (bl HB0.out.2 HY.out.1)) HV.out.2.2.1 (by decide) HV.out.2.2.2.1 (ktab_below HV.out.2.2.2.2 (HQ.out ▸ HB0.out.1.trans (HY.out.1.mono (by have := HB0.out.1.size; have := HQ.out; omega)))))
      go_simp
      refine HFO.out.mono ?_
      rintro e y4 ⟨he, hb⟩
      obtain rfl : e = _ := he
      have HY : Hid (Below y0.heap.size y0 y4 ∧ IsTab y4 q8 42 32 (fun _ => bv 0#8) ∧ y0.heap.size ≤ q8) := Lib.hid ⟨bl HY.out.1 hb, HY.out.2.1.below hb, HY.out.2.2⟩
      clear hb
      try clear HLF
      try clear HFO
      refine hK _ _ HY.out.1 ?_
      clear hK K
      try simp only [List.getElem_toArray, List.getElem_cons_succ, List.getElem_cons_zero, Act.put, pS]
      refine og_tk (some 18) (.tuple #[dv (fold i (lfX v) p 13), .nilIface]) rfl rfl (by go_simp) (fun _ _ => by simp [execOp, go_sem]) ?_
      simp only [Act.put, pS]
      refine og_tk (some 27) (dv (fold i (lfX v) p 13)) rfl rfl (by go_simp) (fun _ _ => by simp [execOp, go_sem]) ?_
      simp only [Act.put, pS]
      refine og_tk (some 28) (.nilIface) rfl rfl (by go_simp) (fun _ _ => by simp [execOp, go_sem]) ?_
      simp only [Act.put, pS]
      refine og_f rfl (by go_simp) fun K hK => ?_
      refine wp_store_row 42 (.tmp 8) (.tmp 27) rfl q8 (tab 32 fun j => bv ((fold i (lfX v) p 13) j)) rfl rfl 42 _ (HY.out.2.1) (infH _) (by simp only [tab_size]) (one_bv _ _) ?_
      have HE : Hid (IsTab (y4.setRow q8 (tab 32 fun j => bv ((fold i (lfX v) p 13) j))) q8 42 32 (fun j => bv ((fold i (lfX v) p 13) j)) ∧ IsTab (y4.setRow q8 (tab 32 fun j => bv ((fold i (lfX v) p 13) j))) q3 42 32 (fun j => bv (r j)) ∧ Below q3 w (y4.setRow q8 (tab 32 fun j => bv ((fold i (lfX v) p 13) j)))) := Lib.hid (by
        have hq8 := HY.out.2.2
        have hq3 := HB0.out.2
        have hlt := HB3.out.lt
        refine ⟨HY.out.2.1.row, (HB3.out.below (HY.out.1.mono (Nat.le_refl _))).rowOther (by omega), below_setRow (HB0.out.1.trans (HY.out.1.mono (by have := HB0.out.1.size; have := HQ.out; omega))) (by omega) _⟩)
      refine hK _ _ (below_setRow HY.out.1 HY.out.2.2 _) ?_
      clear hK K
      try simp only [List.getElem_toArray, List.getElem_cons_succ, List.getElem_cons_zero, Act.put, pS]
      generalize y4.setRow q8 (tab 32 fun j => bv ((fold i (lfX v) p 13) j)) = y9 at *
      refine og_tk (some 9) (.nilIface) rfl rfl (by go_simp) (fun _ _ => by simp [execOp, go_sem]) ?_
      simp only [Act.put, pS]
      refine og_done (NoPanic.normal ?_)
      have D8 := Lib.hid (load32h HE.out.1)
      have D3 := Lib.hid (load32h HE.out.2.1)
      go_wp2_with (first
        | ((with_reducible refine wpList_loadG (P := Tryd.prog) (w := y9) (ty := 42) (x := .tmp 8) (p := .pointer (some ⟨q8, 0, none⟩)) (v := dv (fold i (lfX v) p 13)) ?_ ?_ ?_ D8.out ?_); rotate_left; (· exact rfl); (· exact rfl); rotate_left; (· go_simp))
        | ((with_reducible refine wpList_loadG (P := Tryd.prog) (w := y9) (ty := 42) (x := .tmp 3) (p := .pointer (some ⟨q3, 0, none⟩)) (v := dv r) ?_ ?_ ?_ D3.out ?_); rotate_left; (· exact rfl); (· exact rfl); rotate_left; (· go_simp))
        | (refine wpList_eqG (by go_simp) (.tmp 32) (.tmp 33) 42 (fold i (lfX v) p 13) r rfl rfl rfl ?_))
      exact bodyPost_ret (v := .tuple #[.bool (same32 (fold i (lfX v) p 13) r), .nilIface]) (by simp [results, Tryd.results35, go_sem]) rfl ⟨rfl, by rw [HQ.out]; exact HE.out.2.2⟩
  · go_simp
    have HY : Hid (Below y0.heap.size y0 (y1.alloc (.cells zh 42)) ∧ IsTab (y1.alloc (.cells zh 42)) y1.heap.size 42 32 (fun _ => bv 0#8) ∧ y0.heap.size ≤ y1.heap.size) := Lib.hid ⟨HY.out.1.alloc HY.out.1.size _, put_new y1 (fun _ => 0#8) zh HZ.out, HY.out.1.size⟩
    refine hK _ _ HY.out.1 ?_
    clear hK K
    generalize y1.alloc (.cells zh 42) = y2 at *
    generalize y1.heap.size = q8 at *
    try simp only [List.getElem_toArray, List.getElem_cons_succ, List.getElem_cons_zero, Act.put, pS]
    refine og_f rfl (by go_simp) fun K hK => ?_
    have HLF := Lib.hid (leaf_walk y2 v HV.out.2.1)
    go_simp
    refine HLF.out.mono ?_
    rintro e y3 ⟨he, hb⟩
    obtain rfl : e = _ := he
    have HY : Hid (Below y0.heap.size y0 y3 ∧ IsTab y3 q8 42 32 (fun _ => bv 0#8) ∧ y0.heap.size ≤ q8) := Lib.hid ⟨bl HY.out.1 hb, HY.out.2.1.below hb, HY.out.2.2⟩
    clear hb
    try clear HLF
    try clear HFO
    refine hK _ _ HY.out.1 ?_
    clear hK K
    try simp only [List.getElem_toArray, List.getElem_cons_succ, List.getElem_cons_zero, Act.put, pS]
    refine og_f rfl (by go_simp) fun K hK => ?_
    have HFO := Lib.hid (fold_ok i (lfX v) a 13 c p y3 (HV.out.1.below (bl HB0.out.2 HY.out.1)) HV.out.2.2.1 (by decide) HV.out.2.2.2.1 (ktab_below HV.out.2.2.2.2 (HQ.out ▸ HB0.out.1.trans (HY.out.1.mono (by have := HB0.out.1.size; have := HQ.out; omega)))))
    go_simp
    refine HFO.out.mono ?_
    rintro e y4 ⟨he, hb⟩
    obtain rfl : e = _ := he
    have HY : Hid (Below y0.heap.size y0 y4 ∧ IsTab y4 q8 42 32 (fun _ => bv 0#8) ∧ y0.heap.size ≤ q8) := Lib.hid ⟨bl HY.out.1 hb, HY.out.2.1.below hb, HY.out.2.2⟩
    clear hb
    try clear HLF
    try clear HFO
    refine hK _ _ HY.out.1 ?_
    clear hK K
    try simp only [List.getElem_toArray, List.getElem_cons_succ, List.getElem_cons_zero, Act.put, pS]
    refine og_tk (some 18) (.tuple #[dv (fold i (lfX v) p 13), .nilIface]) rfl rfl (by go_simp) (fun _ _ => by simp [execOp, go_sem]) ?_
    simp only [Act.put, pS]
    refine og_tk (some 27) (dv (fold i (lfX v) p 13)) rfl rfl (by go_simp) (fun _ _ => by simp [execOp, go_sem]) ?_
    simp only [Act.put, pS]
    refine og_tk (some 28) (.nilIface) rfl rfl (by go_simp) (fun _ _ => by simp [execOp, go_sem]) ?_
    simp only [Act.put, pS]
    refine og_f rfl (by go_simp) fun K hK => ?_
    refine wp_store_row 42 (.tmp 8) (.tmp 27) rfl q8 (tab 32 fun j => bv ((fold i (lfX v) p 13) j)) rfl rfl 42 _ (HY.out.2.1) (infH _) (by simp only [tab_size]) (one_bv _ _) ?_
    have HE : Hid (IsTab (y4.setRow q8 (tab 32 fun j => bv ((fold i (lfX v) p 13) j))) q8 42 32 (fun j => bv ((fold i (lfX v) p 13) j)) ∧ IsTab (y4.setRow q8 (tab 32 fun j => bv ((fold i (lfX v) p 13) j))) q3 42 32 (fun j => bv (r j)) ∧ Below q3 w (y4.setRow q8 (tab 32 fun j => bv ((fold i (lfX v) p 13) j)))) := Lib.hid (by
      have hq8 := HY.out.2.2
      have hq3 := HB0.out.2
      have hlt := HB3.out.lt
      refine ⟨HY.out.2.1.row, (HB3.out.below (HY.out.1.mono (Nat.le_refl _))).rowOther (by omega), below_setRow (HB0.out.1.trans (HY.out.1.mono (by have := HB0.out.1.size; have := HQ.out; omega))) (by omega) _⟩)
    refine hK _ _ (below_setRow HY.out.1 HY.out.2.2 _) ?_
    clear hK K
    try simp only [List.getElem_toArray, List.getElem_cons_succ, List.getElem_cons_zero, Act.put, pS]
    generalize y4.setRow q8 (tab 32 fun j => bv ((fold i (lfX v) p 13) j)) = y9 at *
    refine og_tk (some 9) (.nilIface) rfl rfl (by go_simp) (fun _ _ => by simp [execOp, go_sem]) ?_
    simp only [Act.put, pS]
    refine og_done (NoPanic.normal ?_)
    have D8 := Lib.hid (load32h HE.out.1)
    have D3 := Lib.hid (load32h HE.out.2.1)
    go_wp2_with (first
      | ((with_reducible refine wpList_loadG (P := Tryd.prog) (w := y9) (ty := 42) (x := .tmp 8) (p := .pointer (some ⟨q8, 0, none⟩)) (v := dv (fold i (lfX v) p 13)) ?_ ?_ ?_ D8.out ?_); rotate_left; (· exact rfl); (· exact rfl); rotate_left; (· go_simp))
      | ((with_reducible refine wpList_loadG (P := Tryd.prog) (w := y9) (ty := 42) (x := .tmp 3) (p := .pointer (some ⟨q3, 0, none⟩)) (v := dv r) ?_ ?_ ?_ D3.out ?_); rotate_left; (· exact rfl); (· exact rfl); rotate_left; (· go_simp))
      | (refine wpList_eqG (by go_simp) (.tmp 32) (.tmp 33) 42 (fold i (lfX v) p 13) r rfl rfl rfl ?_))
    exact bodyPost_ret (v := .tuple #[.bool (same32 (fold i (lfX v) p 13) r), .nilIface]) (by simp [results, Tryd.results35, go_sem]) rfl ⟨rfl, by rw [HQ.out]; exact HE.out.2.2⟩
set_option maxHeartbeats 2000000 in
set_option maxRecDepth 100000 in
theorem Holds_far (w : World) (r : Hx) (i v : Int) (n c : Nat) (a : Option Addr) (h : 8192 ≤ i) :
    Calls Tryd.prog 35 #[.agg (tab 32 fun i => bv (r i)), .int .u64 i, .agg #[.int .u64 v, .slice a n c]] w fun e w' => e = .returned (.tuple #[.bool false, .iface 85 (.int .i64 2)]) ∧ Below w.heap.size w w' := by
  have t1 : decide (8192 ≤ i) = true := decide_eq_true h
  clear h
  have HB : Hid (Below w.heap.size w ((w.alloc (.cells (tab 32 fun i => bv (r i)) 42)).alloc (.cells #[.int .u64 v, .slice a n c] 54))) := Lib.hid ((ba _ _).alloc (by simp) _)
  have HB5 : Hid (Box2 ((w.alloc (.cells (tab 32 fun i => bv (r i)) 42)).alloc (.cells #[.int .u64 v, .slice a n c] 54)) (w.heap.size + 1) 54 (.int .u64 v) (.slice a n c)) := Lib.hid (by
    have e1 : (w.alloc (.cells (tab 32 fun i => bv (r i)) 42)).heap.size = w.heap.size + 1 := by simp
    have h := Box2.new (w.alloc (.cells (tab 32 fun i => bv (r i)) 42)) 54 (.int .u64 v) (.slice a n c)
    rw [e1] at h; exact h)
  go_enter Tryd.func35, Tryd.ntmps35
  go_upto_region 1 with (fail)
  generalize (w.alloc (.cells (tab 32 fun i => bv (r i)) 42)).alloc (.cells #[.int .u64 v, .slice a n c] 54) = y0 at *
  generalize w.heap.size + 1 = q5 at *
  have k1 := HB5.out.k1
  go_wp2_with (fail)
  exact bodyPost_ret (v := .tuple #[.bool false, .iface 85 (.int .i64 2)]) (by simp [results, Tryd.results35, go_sem]) rfl ⟨rfl, HB.out⟩
set_option maxHeartbeats 2000000 in
set_option maxRecDepth 100000 in
theorem Holds_shape (w : World) (r : Hx) (i : Nat) (v : Int) (n c : Nat) (a : Option Addr) (hi : i < 8192) (h : n ≠ 13) :
    Calls Tryd.prog 35 #[.agg (tab 32 fun i => bv (r i)), .int .u64 i, .agg #[.int .u64 v, .slice a n c]] w fun e w' => e = .returned (.tuple #[.bool false, .iface 85 (.int .i64 3)]) ∧ Below w.heap.size w w' := by
  have t1 : decide (8192 ≤ (i : Int)) = false := by simp; omega
  have t2 : ((n : Int) == 13) = false := by simp; omega
  clear h hi
  have HB : Hid (Below w.heap.size w ((w.alloc (.cells (tab 32 fun i => bv (r i)) 42)).alloc (.cells #[.int .u64 v, .slice a n c] 54))) := Lib.hid ((ba _ _).alloc (by simp) _)
  have HB5 : Hid (Box2 ((w.alloc (.cells (tab 32 fun i => bv (r i)) 42)).alloc (.cells #[.int .u64 v, .slice a n c] 54)) (w.heap.size + 1) 54 (.int .u64 v) (.slice a n c)) := Lib.hid (by
    have e1 : (w.alloc (.cells (tab 32 fun i => bv (r i)) 42)).heap.size = w.heap.size + 1 := by simp
    have h := Box2.new (w.alloc (.cells (tab 32 fun i => bv (r i)) 42)) 54 (.int .u64 v) (.slice a n c)
    rw [e1] at h; exact h)
  go_enter Tryd.func35, Tryd.ntmps35
  go_upto_region 1 with (fail)
  generalize (w.alloc (.cells (tab 32 fun i => bv (r i)) 42)).alloc (.cells #[.int .u64 v, .slice a n c] 54) = y0 at *
  generalize w.heap.size + 1 = q5 at *
  have k1 := HB5.out.k1
  go_wp2_with (fail)
  exact bodyPost_ret (v := .tuple #[.bool false, .iface 85 (.int .i64 3)]) (by simp [results, Tryd.results35, go_sem]) rfl ⟨rfl, HB.out⟩
end Co
end Go.Proofs.YtjfpbponjhpdhaaDoor
