/-
  vm: VmJumps. Written by genYn.py. Own work.
-/
import Derived.Test.YtdmffnjbholkkaaDoorYm
namespace Go.Proofs.YtdmffnjbholkkaaDoor
open Go.RowKit
set_option linter.unusedVariables false
set_option linter.unusedSimpArgs false
namespace Vm
open Kc
set_option maxRecDepth 1000000 in
theorem zeroMac (w : World) : (zeroValue 87).run Tryd.prog w = .ok (.agg (tab 8211 (mc m0))) w := by kernel_rfl
theorem one_mc (M : Mac) : (tab 8211 (mc M)).all (·.oneCell') = true := tab_one fun i => by
  unfold mc
  split
  · rfl
  · split
    · rfl
    · split
      · rfl
      · split <;> rfl
theorem guardM : Tryd.prog.eqGuardType Tryd.prog.depth 87 = false := by kernel_rfl
theorem og_eqM {ops : Array Oper} {Q : Exit → Act → World → Prop} {S : World → Prop} {k : Nat} {r : OG} {o : Oper} {a : Act} {w : World} (d : Option Tmp) (x z : Operand) (vx vz : Array Value) (v : Value) (ho : ops[k]? = some o) (hd : o.dst = d) (hw : Region.wanted o (yielded ops a.tmps) = true) (hop : o.op = .binOp .eql 87 x z 87) (hx : a.eval x = .agg vx) (hz : a.eval z = .agg vz)
    (hl : ∀ w, S w → (binOp .eql 87 (.agg vx) (.agg vz)).run Tryd.prog w = .ok v w) (h : wpOg Tryd.prog ops Q r S (a.put d v) w) : wpOg Tryd.prog ops Q (.take k r) S a w :=
  og_tk d v ho hd hw (fun w hw => by
    have e1 := run_eqGuard_agg (P := Tryd.prog) (w := w) .eql 87 x z vx vz guardM
    have e2 := hl w hw
    unfold execOp
    simp only [hop, hx, hz]
    generalize binOp .eql 87 (.agg vx) (.agg vz) = B at *
    generalize eqGuard .eql 87 x z (.agg vx) (.agg vz) = G at *
    simp [e1, e2, Result.andThen]) h
theorem tm31 (z : Int) : -2147483648 ≤ z.tmod 2147483648 ∧ z.tmod 2147483648 < 2147483648 := by
  rcases Int.le_total 0 z with h | h
  · rw [Int.tmod_eq_emod_of_nonneg h]; omega
  · have e : z = -(-z) := by omega
    rw [e, Int.neg_tmod, Int.tmod_eq_emod_of_nonneg (by omega)]; omega
theorem isIns_new (w : World) (I : Ins) (t : TypeId) : IsIns (w.alloc (.cells (insV I).toArray t)) w.heap.size 0 1 fun _ => I := fun j i v hj hv => by
  have e : j = 0 := by omega
  subst e
  rw [show 0 + 0 * 7 + i = i from by omega, cell_of_row _ _ i _ _ _ (heap_alloc_new w _)]
  simpa using hv
set_option maxHeartbeats 4000000 in
set_option maxRecDepth 100000 in
theorem vj_29n (kind to : Int) (x reg : Nat) (hx : x < 18446744073709551616) (hr : reg < 18446744073709551616) (hop : wrap64 (29 + wrap64 ((IntKind.u64.wrap kind).tmod 5)) = 29) (hto : wN (to.tmod 2147483648) < 8192) (w : World) (hT : Laid.KTab w) :
    Calls Tryd.prog 10 #[.int .i64 kind, .int .u64 x, .int .i64 to, .int .u64 reg] w fun e w' => e = .returned (.bool true) ∧ Below w.heap.size w w' := by
  have HN := Lib.hid (tm31 to)
  have HX := Lib.hid (And.intro hx hr)
  have HOP := Lib.hid hop
  have HT := Lib.hid hT
  have t1 : decide (8192 ≤ IntKind.u64.wrap (to.tmod 2147483648)) = false := by rw [wN_eq]; simp; omega
  have HTO := Lib.hid hto
  clear hto
  clear hx hr hop hT
  have HA : Hid (Below w.heap.size w (w.alloc (.cells #[.int .i64 29, .int .i64 4, .int .i64 1, .int .i64 0, .int .i64 0, .int .i64 (to.tmod 2147483648), .int .u64 0] 82)) ∧ (w.alloc (.cells #[.int .i64 29, .int .i64 4, .int .i64 1, .int .i64 0, .int .i64 0, .int .i64 (to.tmod 2147483648), .int .u64 0] 82)).heap.size = w.heap.size + 1) := Lib.hid ⟨(Below.refl _ _).alloc (Nat.le_refl _) _, by simp⟩
  have HC := Lib.hid (loadedOf_walk (w.alloc (.cells #[.int .i64 29, .int .i64 4, .int .i64 1, .int .i64 0, .int .i64 0, .int .i64 (to.tmod 2147483648), .int .u64 0] 82)) w.heap.size 0 1 1 (fun _ => insOf 29 4 1 0 0 (to.tmod 2147483648)) (isIns_new w (insOf 29 4 1 0 0 (to.tmod 2147483648)) _) (by rw [HA.out.2]; omega) (by decide) (by decide))
  have HWI := Lib.hid (word_of 29 4 1 0 0 (to.tmod 2147483648) (by decide) (by decide) (by decide) (by decide) (by decide) HN.out)
  generalize wordOf (insOf 29 4 1 0 0 (to.tmod 2147483648)) = X at *
  go_enter Tryd.func10, Tryd.ntmps10
  go_upto_region 2 with (fail)
  rw [HOP.out]
  go_upto_region 3 with (go_at_call 34; (with_reducible refine HC.out.mono ?_); rintro e y ⟨b, he, hm, hb, hk⟩; obtain rfl : e = _ := he; have HM := Lib.hid hm; have HB : Hid (Below w.heap.size w y ∧ w.heap.size ≤ b) := Lib.hid ⟨bl HA.out.1 hk, Nat.le_trans (by rw [HA.out.2]; omega) hb⟩; clear hm hb hk HC)
  have hT1 := ktab_below HT.out HB.out.1
  have HN1 := Lib.hid (Wt.New_walk y hT1 (lowB_le' hT1))
  clear hT1 HA
  go_upto_region 4 with (go_at_call 13; (with_reducible refine HN1.out.mono ?_); rintro e y2 ⟨s, T, kb, fb, he, hst, hb, hx⟩; obtain rfl : e = _ := he; have HM2 := Lib.hid (HM.out.below hb); have HB2 : Hid (Below w.heap.size w y2) := Lib.hid (bl HB.out.1 hb); clear hst hb hx HN1)
  have hT2 := ktab_below HT.out HB2.out
  have HF := Lib.hid (fixed10_walk y2 hT2 (lowB_le' hT2))
  clear hT2 HM
  go_upto_region 6 with (go_at_call 35; (with_reducible refine HF.out.mono ?_); rintro e y3 ⟨he, hb⟩; obtain rfl : e = _ := he; have HM3 := Lib.hid (HM2.out.below hb); have HB3 : Hid (Below w.heap.size w y3) := Lib.hid (bl HB2.out hb); clear hb HF HM2)
  have k1 : y3.cell? ⟨b, 8193, none⟩ = some (.int .u64 ((0 : Nat) : Int)) := HM3.out.reg (p := 1) (by decide)
  have f1 := HM3.out.fz 8193
  have HM4 : Hid (IsMac (y3.setCell ⟨b, 8193, none⟩ (.int .u64 (x : Int))) b (setR (loaded 1 fun _ => X) 1 x)) := Lib.hid (HM3.out.setReg (d := 1) (by decide) x)
  have HB4 : Hid (Below w.heap.size w (y3.setCell ⟨b, 8193, none⟩ (.int .u64 (x : Int)))) := Lib.hid (HB3.out.setCell HB.out.2 _)
  go_upto_region 7 with (fail)
  clear k1 f1 HM3
  generalize y3.setCell ⟨b, 8193, none⟩ (.int .u64 (x : Int)) = y4 at *
  go_upto_region 9 with (fail)
  have HLM := Lib.hid (loadMac HM4.out)
  have z9 := zeroMac y4
  have HPQ : Hid (IsMac (y4.alloc (.cells (tab 8211 (mc (setR (loaded 1 fun _ => X) 1 x))) 87)) y4.heap.size (setR (loaded 1 fun _ => X) 1 x) ∧ IsMac (y4.alloc (.cells (tab 8211 (mc (setR (loaded 1 fun _ => X) 1 x))) 87)) b (setR (loaded 1 fun _ => X) 1 x) ∧ Below w.heap.size w (y4.alloc (.cells (tab 8211 (mc (setR (loaded 1 fun _ => X) 1 x))) 87))) := Lib.hid ⟨IsTab.new y4 _ 8211 _, HM4.out.below ((Below.refl _ _).alloc (Nat.le_refl _) _), HB4.out.alloc HB4.out.size _⟩
  generalize hcm : tab 8211 (mc (setR (loaded 1 fun _ => X) 1 x)) = cm at *
  generalize hzm : tab 8211 (mc m0) = zm at *
  have HZ : Hid (zm.size = 8211) := Lib.hid (by rw [← hzm, tab_size])
  have HCM := Lib.hid hcm
  clear hcm hzm
  go_upto_region 10 with (first
    | ((with_reducible refine wpList_loadE (P := Tryd.prog) (w := y4) (ty := 87) (x := .tmp 49) (p := .pointer (some ⟨b, 0, none⟩)) (v := .agg cm) ?_ ?_ ?_ HLM.out ?_); (· exact rfl); (· exact rfl); (· exact rfl))
    | ((with_reducible refine wpList_store_row (P := Tryd.prog) (w := y4.alloc (.cells zm 87)) ?_ 87 (.tmp 12) (.tmp 50) ?_ y4.heap.size cm ?_ ?_ 87 zm (heap_alloc_last y4 _) ?_ ?_ ?_ ?_); (· exact rfl); (· exact rfl); (· exact rfl); (· exact rfl); (· rw [← HCM.out]; exact infM _); (· rw [← HCM.out, HZ.out, tab_size]); (· rw [← HCM.out]; exact one_mc _); rw [World.setRow_alloc_new]; simp only [Act.put]))
  have HQB : Hid (b < y4.heap.size ∧ w.heap.size ≤ y4.heap.size) := Lib.hid ⟨HM4.out.lt, HB4.out.size⟩
  clear z9 HLM HZ HCM HM4 HB4 HB3
  generalize y4.heap.size = q at *
  generalize y4.alloc (.cells cm 87) = y5 at *
  have HFIN : Hid (jumpM (setR (loaded 1 fun _ => X) 1 x) 29 4 1 (wN (to.tmod 2147483648)) = { (setR (loaded 1 fun _ => X) 1 x) with pc := wN (to.tmod 2147483648) }) := Lib.hid (by
    unfold jumpM
    have := HTO.out; rw [if_neg (by omega), if_neg (by simp; omega)]; rfl)
  have HS := Lib.hid (Step_walk y5 b s (fun w' => IsMac w' b { (setR (loaded 1 fun _ => X) 1 x) with pc := wN (to.tmod 2147483648) } ∧ Kept (fun k => k = b) y5 w') (by
    have h := step_jump y5 b s (setR (loaded 1 fun _ => X) 1 x) X ⟨HPQ.out.2.1, ok_setR (ok_loaded 1 (fun _ => X) fun _ => HWI.out.lt) 1 x HX.out.1, rfl, (show 0 < 8192 by decide), rfl, HWI.out.ok⟩ (by rw [HWI.out.op]; decide)
    rw [HWI.out.op, HWI.out.d, HWI.out.a, HWI.out.n, HFIN.out] at h
    exact h))
  go_upto_region 12 with (go_at_call 36; (with_reducible refine HS.out.mono ?_); rintro e y6 ⟨he, hm, hk⟩; obtain rfl : e = _ := he; have HM6 := Lib.hid hm; have HQ6 := Lib.hid (HPQ.out.1.kept hk (by have := HQB.out.1; omega)); have HB6 : Hid (Below w.heap.size w y6) := Lib.hid (Wt.below_of HPQ.out.2.2 hk fun j _ hj => by rw [hj]; exact HB.out.2); clear hm hk HS)
  clear HPQ
  have k1 := HQ6.out.pc
  have f1 := HQ6.out.fz 8208
  have HQ7 : Hid (IsMac (y6.setCell ⟨q, 8208, none⟩ (.int .u64 (IntKind.u64.wrap (to.tmod 2147483648)))) q { (setR (loaded 1 fun _ => X) 1 x) with pc := wN (to.tmod 2147483648) }) := Lib.hid (by rw [wN_eq]; exact HQ6.out.setPc _)
  have HM7 := Lib.hid (HM6.out.kept (kept_set (S := fun k => k = q) (Kept.refl _ y6) q 8208 rfl (.int .u64 (IntKind.u64.wrap (to.tmod 2147483648)))) (by have := HQB.out.1; omega))
  have HB7 : Hid (Below w.heap.size w (y6.setCell ⟨q, 8208, none⟩ (.int .u64 (IntKind.u64.wrap (to.tmod 2147483648))))) := Lib.hid (HB6.out.setCell HQB.out.2 _)
  go_upto_region 22 with (fail)
  clear k1 f1
  generalize y6.setCell ⟨q, 8208, none⟩ (.int .u64 (IntKind.u64.wrap (to.tmod 2147483648))) = y7 at *
  have HM8 := HM7
  have HQ8 := HQ7
  have HB8 := HB7
  go_upto_region 24 with (fail)
  refine wp_region_og (fun z : World => y7.drew = z) (.take 0 (.take 1 (.take 2 (.take 3 (.take 4 (.take 5 .done)))))) (by kernel_rfl) (by kernel_rfl) rfl ?_
  have HB9 := Lib.hid HB8.out.drew
  have HM9 : Hid (IsMac y7.drew b { (setR (loaded 1 fun _ => X) 1 x) with pc := wN (to.tmod 2147483648) }) := Lib.hid (HM8.out.kept (Wt.kept_drew y7) id)
  have HQ9 : Hid (IsMac y7.drew q { (setR (loaded 1 fun _ => X) 1 x) with pc := wN (to.tmod 2147483648) }) := Lib.hid (HQ8.out.kept (Wt.kept_drew y7) id)
  have HE := Lib.hid (fun z : World => eqlM { (setR (loaded 1 fun _ => X) 1 x) with pc := wN (to.tmod 2147483648) } z)
  have HLB := Lib.hid (loadMac HM9.out)
  have HLQ := Lib.hid (loadMac HQ9.out)
  generalize tab 8211 (mc { (setR (loaded 1 fun _ => X) 1 x) with pc := wN (to.tmod 2147483648) }) = cf at *
  generalize y7.drew = y9 at *
  refine og_tk (some 98) (.pointer (some ⟨b, 0, none⟩)) rfl rfl (by go_simp) (fun _ _ => by simp [execOp, go_sem]) ?_
  simp only [Act.put, List.setIfInBounds_toArray, List.set_cons_zero, List.set_cons_succ]
  refine og_tk (some 99) (.pointer (some ⟨b, 0, none⟩)) rfl rfl (by go_simp) (fun _ _ => by simp [execOp, go_sem]) ?_
  simp only [Act.put, List.setIfInBounds_toArray, List.set_cons_zero, List.set_cons_succ]
  refine og_ld (some 100) 87 (.tmp 99) (.pointer (some ⟨b, 0, none⟩)) (.agg cf) rfl rfl (by go_simp) rfl rfl (fun y hy => hy ▸ HLB.out) ?_
  simp only [Act.put, List.setIfInBounds_toArray, List.set_cons_zero, List.set_cons_succ]
  refine og_ld (some 101) 87 (.tmp 12) (.pointer (some ⟨q, 0, none⟩)) (.agg cf) rfl rfl (by go_simp) rfl rfl (fun y hy => hy ▸ HLQ.out) ?_
  simp only [Act.put, List.setIfInBounds_toArray, List.set_cons_zero, List.set_cons_succ]
  refine og_eqM (some 102) (.tmp 100) (.tmp 101) cf cf (.bool true) rfl rfl (by go_simp) rfl rfl rfl (fun z _ => HE.out z) ?_
  simp only [Act.put, List.setIfInBounds_toArray, List.set_cons_zero, List.set_cons_succ]
  refine og_tk (some 8) (.bool true) rfl rfl (by go_simp) (fun _ _ => by simp [execOp, go_sem]) ?_
  simp only [Act.put, List.setIfInBounds_toArray, List.set_cons_zero, List.set_cons_succ]
  refine og_done (NoPanic.normal ?_)
  go_wp2_with (fail)
  exact bodyPost_ret (v := .bool true) (by simp [results, Tryd.results10, go_sem]) rfl ⟨rfl, HB9.out⟩
set_option maxHeartbeats 4000000 in
set_option maxRecDepth 100000 in
theorem vj_29f (kind to : Int) (x reg : Nat) (hx : x < 18446744073709551616) (hr : reg < 18446744073709551616) (hop : wrap64 (29 + wrap64 ((IntKind.u64.wrap kind).tmod 5)) = 29) (hto : 8192 ≤ wN (to.tmod 2147483648)) (w : World) (hT : Laid.KTab w) :
    Calls Tryd.prog 10 #[.int .i64 kind, .int .u64 x, .int .i64 to, .int .u64 reg] w fun e w' => e = .returned (.bool true) ∧ Below w.heap.size w w' := by
  have HN := Lib.hid (tm31 to)
  have HX := Lib.hid (And.intro hx hr)
  have HOP := Lib.hid hop
  have HT := Lib.hid hT
  have t1 : decide (8192 ≤ IntKind.u64.wrap (to.tmod 2147483648)) = true := by rw [wN_eq]; simp; omega
  have HTO := Lib.hid hto
  clear hto
  clear hx hr hop hT
  have HA : Hid (Below w.heap.size w (w.alloc (.cells #[.int .i64 29, .int .i64 4, .int .i64 1, .int .i64 0, .int .i64 0, .int .i64 (to.tmod 2147483648), .int .u64 0] 82)) ∧ (w.alloc (.cells #[.int .i64 29, .int .i64 4, .int .i64 1, .int .i64 0, .int .i64 0, .int .i64 (to.tmod 2147483648), .int .u64 0] 82)).heap.size = w.heap.size + 1) := Lib.hid ⟨(Below.refl _ _).alloc (Nat.le_refl _) _, by simp⟩
  have HC := Lib.hid (loadedOf_walk (w.alloc (.cells #[.int .i64 29, .int .i64 4, .int .i64 1, .int .i64 0, .int .i64 0, .int .i64 (to.tmod 2147483648), .int .u64 0] 82)) w.heap.size 0 1 1 (fun _ => insOf 29 4 1 0 0 (to.tmod 2147483648)) (isIns_new w (insOf 29 4 1 0 0 (to.tmod 2147483648)) _) (by rw [HA.out.2]; omega) (by decide) (by decide))
  have HWI := Lib.hid (word_of 29 4 1 0 0 (to.tmod 2147483648) (by decide) (by decide) (by decide) (by decide) (by decide) HN.out)
  generalize wordOf (insOf 29 4 1 0 0 (to.tmod 2147483648)) = X at *
  go_enter Tryd.func10, Tryd.ntmps10
  go_upto_region 2 with (fail)
  rw [HOP.out]
  go_upto_region 3 with (go_at_call 34; (with_reducible refine HC.out.mono ?_); rintro e y ⟨b, he, hm, hb, hk⟩; obtain rfl : e = _ := he; have HM := Lib.hid hm; have HB : Hid (Below w.heap.size w y ∧ w.heap.size ≤ b) := Lib.hid ⟨bl HA.out.1 hk, Nat.le_trans (by rw [HA.out.2]; omega) hb⟩; clear hm hb hk HC)
  have hT1 := ktab_below HT.out HB.out.1
  have HN1 := Lib.hid (Wt.New_walk y hT1 (lowB_le' hT1))
  clear hT1 HA
  go_upto_region 4 with (go_at_call 13; (with_reducible refine HN1.out.mono ?_); rintro e y2 ⟨s, T, kb, fb, he, hst, hb, hx⟩; obtain rfl : e = _ := he; have HM2 := Lib.hid (HM.out.below hb); have HB2 : Hid (Below w.heap.size w y2) := Lib.hid (bl HB.out.1 hb); clear hst hb hx HN1)
  have hT2 := ktab_below HT.out HB2.out
  have HF := Lib.hid (fixed10_walk y2 hT2 (lowB_le' hT2))
  clear hT2 HM
  go_upto_region 6 with (go_at_call 35; (with_reducible refine HF.out.mono ?_); rintro e y3 ⟨he, hb⟩; obtain rfl : e = _ := he; have HM3 := Lib.hid (HM2.out.below hb); have HB3 : Hid (Below w.heap.size w y3) := Lib.hid (bl HB2.out hb); clear hb HF HM2)
  have k1 : y3.cell? ⟨b, 8193, none⟩ = some (.int .u64 ((0 : Nat) : Int)) := HM3.out.reg (p := 1) (by decide)
  have f1 := HM3.out.fz 8193
  have HM4 : Hid (IsMac (y3.setCell ⟨b, 8193, none⟩ (.int .u64 (x : Int))) b (setR (loaded 1 fun _ => X) 1 x)) := Lib.hid (HM3.out.setReg (d := 1) (by decide) x)
  have HB4 : Hid (Below w.heap.size w (y3.setCell ⟨b, 8193, none⟩ (.int .u64 (x : Int)))) := Lib.hid (HB3.out.setCell HB.out.2 _)
  go_upto_region 7 with (fail)
  clear k1 f1 HM3
  generalize y3.setCell ⟨b, 8193, none⟩ (.int .u64 (x : Int)) = y4 at *
  go_upto_region 9 with (fail)
  have HLM := Lib.hid (loadMac HM4.out)
  have z9 := zeroMac y4
  have HPQ : Hid (IsMac (y4.alloc (.cells (tab 8211 (mc (setR (loaded 1 fun _ => X) 1 x))) 87)) y4.heap.size (setR (loaded 1 fun _ => X) 1 x) ∧ IsMac (y4.alloc (.cells (tab 8211 (mc (setR (loaded 1 fun _ => X) 1 x))) 87)) b (setR (loaded 1 fun _ => X) 1 x) ∧ Below w.heap.size w (y4.alloc (.cells (tab 8211 (mc (setR (loaded 1 fun _ => X) 1 x))) 87))) := Lib.hid ⟨IsTab.new y4 _ 8211 _, HM4.out.below ((Below.refl _ _).alloc (Nat.le_refl _) _), HB4.out.alloc HB4.out.size _⟩
  generalize hcm : tab 8211 (mc (setR (loaded 1 fun _ => X) 1 x)) = cm at *
  generalize hzm : tab 8211 (mc m0) = zm at *
  have HZ : Hid (zm.size = 8211) := Lib.hid (by rw [← hzm, tab_size])
  have HCM := Lib.hid hcm
  clear hcm hzm
  go_upto_region 10 with (first
    | ((with_reducible refine wpList_loadE (P := Tryd.prog) (w := y4) (ty := 87) (x := .tmp 49) (p := .pointer (some ⟨b, 0, none⟩)) (v := .agg cm) ?_ ?_ ?_ HLM.out ?_); (· exact rfl); (· exact rfl); (· exact rfl))
    | ((with_reducible refine wpList_store_row (P := Tryd.prog) (w := y4.alloc (.cells zm 87)) ?_ 87 (.tmp 12) (.tmp 50) ?_ y4.heap.size cm ?_ ?_ 87 zm (heap_alloc_last y4 _) ?_ ?_ ?_ ?_); (· exact rfl); (· exact rfl); (· exact rfl); (· exact rfl); (· rw [← HCM.out]; exact infM _); (· rw [← HCM.out, HZ.out, tab_size]); (· rw [← HCM.out]; exact one_mc _); rw [World.setRow_alloc_new]; simp only [Act.put]))
  have HQB : Hid (b < y4.heap.size ∧ w.heap.size ≤ y4.heap.size) := Lib.hid ⟨HM4.out.lt, HB4.out.size⟩
  clear z9 HLM HZ HCM HM4 HB4 HB3
  generalize y4.heap.size = q at *
  generalize y4.alloc (.cells cm 87) = y5 at *
  have HFIN : Hid (jumpM (setR (loaded 1 fun _ => X) 1 x) 29 4 1 (wN (to.tmod 2147483648)) = (stopM (setR (loaded 1 fun _ => X) 1 x) 18446744073709551614)) := Lib.hid (by
    unfold jumpM
    have := HTO.out; rw [if_neg (by omega), if_pos (by simp; omega)])
  have HS := Lib.hid (Step_walk y5 b s (fun w' => IsMac w' b (stopM (setR (loaded 1 fun _ => X) 1 x) 18446744073709551614) ∧ Kept (fun k => k = b) y5 w') (by
    have h := step_jump y5 b s (setR (loaded 1 fun _ => X) 1 x) X ⟨HPQ.out.2.1, ok_setR (ok_loaded 1 (fun _ => X) fun _ => HWI.out.lt) 1 x HX.out.1, rfl, (show 0 < 8192 by decide), rfl, HWI.out.ok⟩ (by rw [HWI.out.op]; decide)
    rw [HWI.out.op, HWI.out.d, HWI.out.a, HWI.out.n, HFIN.out] at h
    exact h))
  go_upto_region 12 with (go_at_call 36; (with_reducible refine HS.out.mono ?_); rintro e y6 ⟨he, hm, hk⟩; obtain rfl : e = _ := he; have HM6 := Lib.hid hm; have HQ6 := Lib.hid (HPQ.out.1.kept hk (by have := HQB.out.1; omega)); have HB6 : Hid (Below w.heap.size w y6) := Lib.hid (Wt.below_of HPQ.out.2.2 hk fun j _ hj => by rw [hj]; exact HB.out.2); clear hm hk HS)
  clear HPQ
  go_upto_region 19 with (fail)
  have k1 := HQ6.out.halted
  have f1 := HQ6.out.fz 8209
  have k2 := HQ6.out.exit
  have f2 := HQ6.out.fz 8210
  have HQ8 : Hid (IsMac ((y6.setCell ⟨q, 8209, none⟩ (.bool true)).setCell ⟨q, 8210, none⟩ (.int .u64 18446744073709551614)) q (stopM (setR (loaded 1 fun _ => X) 1 x) 18446744073709551614)) := Lib.hid ((HQ6.out.setHalted true).setExit 18446744073709551614)
  have HM8 := Lib.hid (HM6.out.kept (kept_set (S := fun k => k = q) (kept_set (S := fun k => k = q) (Kept.refl _ y6) q 8209 rfl (.bool true)) q 8210 rfl (.int .u64 18446744073709551614)) (by have := HQB.out.1; omega))
  have HB8 : Hid (Below w.heap.size w ((y6.setCell ⟨q, 8209, none⟩ (.bool true)).setCell ⟨q, 8210, none⟩ (.int .u64 18446744073709551614))) := Lib.hid ((HB6.out.setCell HQB.out.2 _).setCell HQB.out.2 _)
  go_upto_region 20 with (fail)
  clear k1 f1 k2 f2
  generalize (y6.setCell ⟨q, 8209, none⟩ (.bool true)).setCell ⟨q, 8210, none⟩ (.int .u64 18446744073709551614) = y8 at *
  refine wp_region_og (fun z : World => y8.drew = z) (.take 0 (.take 1 (.take 2 (.take 3 (.take 4 (.take 5 .done)))))) (by kernel_rfl) (by kernel_rfl) rfl ?_
  have HB9 := Lib.hid HB8.out.drew
  have HM9 : Hid (IsMac y8.drew b (stopM (setR (loaded 1 fun _ => X) 1 x) 18446744073709551614)) := Lib.hid (HM8.out.kept (Wt.kept_drew y8) id)
  have HQ9 : Hid (IsMac y8.drew q (stopM (setR (loaded 1 fun _ => X) 1 x) 18446744073709551614)) := Lib.hid (HQ8.out.kept (Wt.kept_drew y8) id)
  have HE := Lib.hid (fun z : World => eqlM (stopM (setR (loaded 1 fun _ => X) 1 x) 18446744073709551614) z)
  have HLB := Lib.hid (loadMac HM9.out)
  have HLQ := Lib.hid (loadMac HQ9.out)
  generalize tab 8211 (mc (stopM (setR (loaded 1 fun _ => X) 1 x) 18446744073709551614)) = cf at *
  generalize y8.drew = y9 at *
  refine og_tk (some 87) (.pointer (some ⟨b, 0, none⟩)) rfl rfl (by go_simp) (fun _ _ => by simp [execOp, go_sem]) ?_
  simp only [Act.put, List.setIfInBounds_toArray, List.set_cons_zero, List.set_cons_succ]
  refine og_tk (some 88) (.pointer (some ⟨b, 0, none⟩)) rfl rfl (by go_simp) (fun _ _ => by simp [execOp, go_sem]) ?_
  simp only [Act.put, List.setIfInBounds_toArray, List.set_cons_zero, List.set_cons_succ]
  refine og_ld (some 89) 87 (.tmp 88) (.pointer (some ⟨b, 0, none⟩)) (.agg cf) rfl rfl (by go_simp) rfl rfl (fun y hy => hy ▸ HLB.out) ?_
  simp only [Act.put, List.setIfInBounds_toArray, List.set_cons_zero, List.set_cons_succ]
  refine og_ld (some 90) 87 (.tmp 12) (.pointer (some ⟨q, 0, none⟩)) (.agg cf) rfl rfl (by go_simp) rfl rfl (fun y hy => hy ▸ HLQ.out) ?_
  simp only [Act.put, List.setIfInBounds_toArray, List.set_cons_zero, List.set_cons_succ]
  refine og_eqM (some 91) (.tmp 89) (.tmp 90) cf cf (.bool true) rfl rfl (by go_simp) rfl rfl rfl (fun z _ => HE.out z) ?_
  simp only [Act.put, List.setIfInBounds_toArray, List.set_cons_zero, List.set_cons_succ]
  refine og_tk (some 8) (.bool true) rfl rfl (by go_simp) (fun _ _ => by simp [execOp, go_sem]) ?_
  simp only [Act.put, List.setIfInBounds_toArray, List.set_cons_zero, List.set_cons_succ]
  refine og_done (NoPanic.normal ?_)
  go_wp2_with (fail)
  exact bodyPost_ret (v := .bool true) (by simp [results, Tryd.results10, go_sem]) rfl ⟨rfl, HB9.out⟩
set_option maxHeartbeats 4000000 in
set_option maxRecDepth 100000 in
theorem vj_30o (kind to : Int) (x reg : Nat) (hx : x < 18446744073709551616) (hr : reg < 18446744073709551616) (hop : wrap64 (29 + wrap64 ((IntKind.u64.wrap kind).tmod 5)) = 30) (hv : x ≠ 0) (w : World) (hT : Laid.KTab w) :
    Calls Tryd.prog 10 #[.int .i64 kind, .int .u64 x, .int .i64 to, .int .u64 reg] w fun e w' => e = .returned (.bool true) ∧ Below w.heap.size w w' := by
  have HN := Lib.hid (tm31 to)
  have HX := Lib.hid (And.intro hx hr)
  have HOP := Lib.hid hop
  have HT := Lib.hid hT
  have t2 : ((x : Int) == 0) = false := by simp; omega
  have HV := Lib.hid hv
  clear hv
  clear hx hr hop hT
  have HA : Hid (Below w.heap.size w (w.alloc (.cells #[.int .i64 30, .int .i64 4, .int .i64 1, .int .i64 0, .int .i64 0, .int .i64 (to.tmod 2147483648), .int .u64 0] 82)) ∧ (w.alloc (.cells #[.int .i64 30, .int .i64 4, .int .i64 1, .int .i64 0, .int .i64 0, .int .i64 (to.tmod 2147483648), .int .u64 0] 82)).heap.size = w.heap.size + 1) := Lib.hid ⟨(Below.refl _ _).alloc (Nat.le_refl _) _, by simp⟩
  have HC := Lib.hid (loadedOf_walk (w.alloc (.cells #[.int .i64 30, .int .i64 4, .int .i64 1, .int .i64 0, .int .i64 0, .int .i64 (to.tmod 2147483648), .int .u64 0] 82)) w.heap.size 0 1 1 (fun _ => insOf 30 4 1 0 0 (to.tmod 2147483648)) (isIns_new w (insOf 30 4 1 0 0 (to.tmod 2147483648)) _) (by rw [HA.out.2]; omega) (by decide) (by decide))
  have HWI := Lib.hid (word_of 30 4 1 0 0 (to.tmod 2147483648) (by decide) (by decide) (by decide) (by decide) (by decide) HN.out)
  generalize wordOf (insOf 30 4 1 0 0 (to.tmod 2147483648)) = X at *
  go_enter Tryd.func10, Tryd.ntmps10
  go_upto_region 2 with (fail)
  rw [HOP.out]
  go_upto_region 3 with (go_at_call 34; (with_reducible refine HC.out.mono ?_); rintro e y ⟨b, he, hm, hb, hk⟩; obtain rfl : e = _ := he; have HM := Lib.hid hm; have HB : Hid (Below w.heap.size w y ∧ w.heap.size ≤ b) := Lib.hid ⟨bl HA.out.1 hk, Nat.le_trans (by rw [HA.out.2]; omega) hb⟩; clear hm hb hk HC)
  have hT1 := ktab_below HT.out HB.out.1
  have HN1 := Lib.hid (Wt.New_walk y hT1 (lowB_le' hT1))
  clear hT1 HA
  go_upto_region 4 with (go_at_call 13; (with_reducible refine HN1.out.mono ?_); rintro e y2 ⟨s, T, kb, fb, he, hst, hb, hx⟩; obtain rfl : e = _ := he; have HM2 := Lib.hid (HM.out.below hb); have HB2 : Hid (Below w.heap.size w y2) := Lib.hid (bl HB.out.1 hb); clear hst hb hx HN1)
  have hT2 := ktab_below HT.out HB2.out
  have HF := Lib.hid (fixed10_walk y2 hT2 (lowB_le' hT2))
  clear hT2 HM
  go_upto_region 6 with (go_at_call 35; (with_reducible refine HF.out.mono ?_); rintro e y3 ⟨he, hb⟩; obtain rfl : e = _ := he; have HM3 := Lib.hid (HM2.out.below hb); have HB3 : Hid (Below w.heap.size w y3) := Lib.hid (bl HB2.out hb); clear hb HF HM2)
  have k1 : y3.cell? ⟨b, 8193, none⟩ = some (.int .u64 ((0 : Nat) : Int)) := HM3.out.reg (p := 1) (by decide)
  have f1 := HM3.out.fz 8193
  have HM4 : Hid (IsMac (y3.setCell ⟨b, 8193, none⟩ (.int .u64 (x : Int))) b (setR (loaded 1 fun _ => X) 1 x)) := Lib.hid (HM3.out.setReg (d := 1) (by decide) x)
  have HB4 : Hid (Below w.heap.size w (y3.setCell ⟨b, 8193, none⟩ (.int .u64 (x : Int)))) := Lib.hid (HB3.out.setCell HB.out.2 _)
  go_upto_region 7 with (fail)
  clear k1 f1 HM3
  generalize y3.setCell ⟨b, 8193, none⟩ (.int .u64 (x : Int)) = y4 at *
  go_upto_region 9 with (fail)
  have HLM := Lib.hid (loadMac HM4.out)
  have z9 := zeroMac y4
  have HPQ : Hid (IsMac (y4.alloc (.cells (tab 8211 (mc (setR (loaded 1 fun _ => X) 1 x))) 87)) y4.heap.size (setR (loaded 1 fun _ => X) 1 x) ∧ IsMac (y4.alloc (.cells (tab 8211 (mc (setR (loaded 1 fun _ => X) 1 x))) 87)) b (setR (loaded 1 fun _ => X) 1 x) ∧ Below w.heap.size w (y4.alloc (.cells (tab 8211 (mc (setR (loaded 1 fun _ => X) 1 x))) 87))) := Lib.hid ⟨IsTab.new y4 _ 8211 _, HM4.out.below ((Below.refl _ _).alloc (Nat.le_refl _) _), HB4.out.alloc HB4.out.size _⟩
  generalize hcm : tab 8211 (mc (setR (loaded 1 fun _ => X) 1 x)) = cm at *
  generalize hzm : tab 8211 (mc m0) = zm at *
  have HZ : Hid (zm.size = 8211) := Lib.hid (by rw [← hzm, tab_size])
  have HCM := Lib.hid hcm
  clear hcm hzm
  go_upto_region 10 with (first
    | ((with_reducible refine wpList_loadE (P := Tryd.prog) (w := y4) (ty := 87) (x := .tmp 49) (p := .pointer (some ⟨b, 0, none⟩)) (v := .agg cm) ?_ ?_ ?_ HLM.out ?_); (· exact rfl); (· exact rfl); (· exact rfl))
    | ((with_reducible refine wpList_store_row (P := Tryd.prog) (w := y4.alloc (.cells zm 87)) ?_ 87 (.tmp 12) (.tmp 50) ?_ y4.heap.size cm ?_ ?_ 87 zm (heap_alloc_last y4 _) ?_ ?_ ?_ ?_); (· exact rfl); (· exact rfl); (· exact rfl); (· exact rfl); (· rw [← HCM.out]; exact infM _); (· rw [← HCM.out, HZ.out, tab_size]); (· rw [← HCM.out]; exact one_mc _); rw [World.setRow_alloc_new]; simp only [Act.put]))
  have HQB : Hid (b < y4.heap.size ∧ w.heap.size ≤ y4.heap.size) := Lib.hid ⟨HM4.out.lt, HB4.out.size⟩
  clear z9 HLM HZ HCM HM4 HB4 HB3
  generalize y4.heap.size = q at *
  generalize y4.alloc (.cells cm 87) = y5 at *
  have HFIN : Hid (jumpM (setR (loaded 1 fun _ => X) 1 x) 30 4 1 (wN (to.tmod 2147483648)) = { (setR (loaded 1 fun _ => X) 1 x) with pc := 1 }) := Lib.hid (by
    unfold jumpM
    rw [if_pos (.inl ⟨rfl, HV.out⟩)]; rfl)
  have HS := Lib.hid (Step_walk y5 b s (fun w' => IsMac w' b { (setR (loaded 1 fun _ => X) 1 x) with pc := 1 } ∧ Kept (fun k => k = b) y5 w') (by
    have h := step_jump y5 b s (setR (loaded 1 fun _ => X) 1 x) X ⟨HPQ.out.2.1, ok_setR (ok_loaded 1 (fun _ => X) fun _ => HWI.out.lt) 1 x HX.out.1, rfl, (show 0 < 8192 by decide), rfl, HWI.out.ok⟩ (by rw [HWI.out.op]; decide)
    rw [HWI.out.op, HWI.out.d, HWI.out.a, HWI.out.n, HFIN.out] at h
    exact h))
  go_upto_region 12 with (go_at_call 36; (with_reducible refine HS.out.mono ?_); rintro e y6 ⟨he, hm, hk⟩; obtain rfl : e = _ := he; have HM6 := Lib.hid hm; have HQ6 := Lib.hid (HPQ.out.1.kept hk (by have := HQB.out.1; omega)); have HB6 : Hid (Below w.heap.size w y6) := Lib.hid (Wt.below_of HPQ.out.2.2 hk fun j _ hj => by rw [hj]; exact HB.out.2); clear hm hk HS)
  clear HPQ
  have k1 := HQ6.out.pc
  have f1 := HQ6.out.fz 8208
  have HQ7 : Hid (IsMac (y6.setCell ⟨q, 8208, none⟩ (.int .u64 1)) q { (setR (loaded 1 fun _ => X) 1 x) with pc := 1 }) := Lib.hid (HQ6.out.setPc 1)
  have HM7 := Lib.hid (HM6.out.kept (kept_set (S := fun k => k = q) (Kept.refl _ y6) q 8208 rfl (.int .u64 1)) (by have := HQB.out.1; omega))
  have HB7 : Hid (Below w.heap.size w (y6.setCell ⟨q, 8208, none⟩ (.int .u64 1))) := Lib.hid (HB6.out.setCell HQB.out.2 _)
  go_upto_region 15 with (fail)
  clear k1 f1
  have HM8 := HM7
  have HQ8 := HQ7
  have HB8 := HB7
  generalize y6.setCell ⟨q, 8208, none⟩ (.int .u64 1) = y8 at *
  refine wp_region_og (fun z : World => y8.drew = z) (.take 0 (.take 1 (.take 2 (.take 3 (.take 4 (.take 5 .done)))))) (by kernel_rfl) (by kernel_rfl) rfl ?_
  have HB9 := Lib.hid HB8.out.drew
  have HM9 : Hid (IsMac y8.drew b { (setR (loaded 1 fun _ => X) 1 x) with pc := 1 }) := Lib.hid (HM8.out.kept (Wt.kept_drew y8) id)
  have HQ9 : Hid (IsMac y8.drew q { (setR (loaded 1 fun _ => X) 1 x) with pc := 1 }) := Lib.hid (HQ8.out.kept (Wt.kept_drew y8) id)
  have HE := Lib.hid (fun z : World => eqlM { (setR (loaded 1 fun _ => X) 1 x) with pc := 1 } z)
  have HLB := Lib.hid (loadMac HM9.out)
  have HLQ := Lib.hid (loadMac HQ9.out)
  generalize tab 8211 (mc { (setR (loaded 1 fun _ => X) 1 x) with pc := 1 }) = cf at *
  generalize y8.drew = y9 at *
  refine og_tk (some 74) (.pointer (some ⟨b, 0, none⟩)) rfl rfl (by go_simp) (fun _ _ => by simp [execOp, go_sem]) ?_
  simp only [Act.put, List.setIfInBounds_toArray, List.set_cons_zero, List.set_cons_succ]
  refine og_tk (some 75) (.pointer (some ⟨b, 0, none⟩)) rfl rfl (by go_simp) (fun _ _ => by simp [execOp, go_sem]) ?_
  simp only [Act.put, List.setIfInBounds_toArray, List.set_cons_zero, List.set_cons_succ]
  refine og_ld (some 76) 87 (.tmp 75) (.pointer (some ⟨b, 0, none⟩)) (.agg cf) rfl rfl (by go_simp) rfl rfl (fun y hy => hy ▸ HLB.out) ?_
  simp only [Act.put, List.setIfInBounds_toArray, List.set_cons_zero, List.set_cons_succ]
  refine og_ld (some 77) 87 (.tmp 12) (.pointer (some ⟨q, 0, none⟩)) (.agg cf) rfl rfl (by go_simp) rfl rfl (fun y hy => hy ▸ HLQ.out) ?_
  simp only [Act.put, List.setIfInBounds_toArray, List.set_cons_zero, List.set_cons_succ]
  refine og_eqM (some 78) (.tmp 76) (.tmp 77) cf cf (.bool true) rfl rfl (by go_simp) rfl rfl rfl (fun z _ => HE.out z) ?_
  simp only [Act.put, List.setIfInBounds_toArray, List.set_cons_zero, List.set_cons_succ]
  refine og_tk (some 8) (.bool true) rfl rfl (by go_simp) (fun _ _ => by simp [execOp, go_sem]) ?_
  simp only [Act.put, List.setIfInBounds_toArray, List.set_cons_zero, List.set_cons_succ]
  refine og_done (NoPanic.normal ?_)
  go_wp2_with (fail)
  exact bodyPost_ret (v := .bool true) (by simp [results, Tryd.results10, go_sem]) rfl ⟨rfl, HB9.out⟩
set_option maxHeartbeats 4000000 in
set_option maxRecDepth 100000 in
theorem vj_30n (kind to : Int) (x reg : Nat) (hx : x < 18446744073709551616) (hr : reg < 18446744073709551616) (hop : wrap64 (29 + wrap64 ((IntKind.u64.wrap kind).tmod 5)) = 30) (hv : x = 0) (hto : wN (to.tmod 2147483648) < 8192) (w : World) (hT : Laid.KTab w) :
    Calls Tryd.prog 10 #[.int .i64 kind, .int .u64 x, .int .i64 to, .int .u64 reg] w fun e w' => e = .returned (.bool true) ∧ Below w.heap.size w w' := by
  have HN := Lib.hid (tm31 to)
  have HX := Lib.hid (And.intro hx hr)
  have HOP := Lib.hid hop
  have HT := Lib.hid hT
  have t1 : decide (8192 ≤ IntKind.u64.wrap (to.tmod 2147483648)) = false := by rw [wN_eq]; simp; omega
  have HTO := Lib.hid hto
  clear hto
  have t2 : ((x : Int) == 0) = true := by simp; omega
  have HV := Lib.hid hv
  clear hv
  clear hx hr hop hT
  have HA : Hid (Below w.heap.size w (w.alloc (.cells #[.int .i64 30, .int .i64 4, .int .i64 1, .int .i64 0, .int .i64 0, .int .i64 (to.tmod 2147483648), .int .u64 0] 82)) ∧ (w.alloc (.cells #[.int .i64 30, .int .i64 4, .int .i64 1, .int .i64 0, .int .i64 0, .int .i64 (to.tmod 2147483648), .int .u64 0] 82)).heap.size = w.heap.size + 1) := Lib.hid ⟨(Below.refl _ _).alloc (Nat.le_refl _) _, by simp⟩
  have HC := Lib.hid (loadedOf_walk (w.alloc (.cells #[.int .i64 30, .int .i64 4, .int .i64 1, .int .i64 0, .int .i64 0, .int .i64 (to.tmod 2147483648), .int .u64 0] 82)) w.heap.size 0 1 1 (fun _ => insOf 30 4 1 0 0 (to.tmod 2147483648)) (isIns_new w (insOf 30 4 1 0 0 (to.tmod 2147483648)) _) (by rw [HA.out.2]; omega) (by decide) (by decide))
  have HWI := Lib.hid (word_of 30 4 1 0 0 (to.tmod 2147483648) (by decide) (by decide) (by decide) (by decide) (by decide) HN.out)
  generalize wordOf (insOf 30 4 1 0 0 (to.tmod 2147483648)) = X at *
  go_enter Tryd.func10, Tryd.ntmps10
  go_upto_region 2 with (fail)
  rw [HOP.out]
  go_upto_region 3 with (go_at_call 34; (with_reducible refine HC.out.mono ?_); rintro e y ⟨b, he, hm, hb, hk⟩; obtain rfl : e = _ := he; have HM := Lib.hid hm; have HB : Hid (Below w.heap.size w y ∧ w.heap.size ≤ b) := Lib.hid ⟨bl HA.out.1 hk, Nat.le_trans (by rw [HA.out.2]; omega) hb⟩; clear hm hb hk HC)
  have hT1 := ktab_below HT.out HB.out.1
  have HN1 := Lib.hid (Wt.New_walk y hT1 (lowB_le' hT1))
  clear hT1 HA
  go_upto_region 4 with (go_at_call 13; (with_reducible refine HN1.out.mono ?_); rintro e y2 ⟨s, T, kb, fb, he, hst, hb, hx⟩; obtain rfl : e = _ := he; have HM2 := Lib.hid (HM.out.below hb); have HB2 : Hid (Below w.heap.size w y2) := Lib.hid (bl HB.out.1 hb); clear hst hb hx HN1)
  have hT2 := ktab_below HT.out HB2.out
  have HF := Lib.hid (fixed10_walk y2 hT2 (lowB_le' hT2))
  clear hT2 HM
  go_upto_region 6 with (go_at_call 35; (with_reducible refine HF.out.mono ?_); rintro e y3 ⟨he, hb⟩; obtain rfl : e = _ := he; have HM3 := Lib.hid (HM2.out.below hb); have HB3 : Hid (Below w.heap.size w y3) := Lib.hid (bl HB2.out hb); clear hb HF HM2)
  have k1 : y3.cell? ⟨b, 8193, none⟩ = some (.int .u64 ((0 : Nat) : Int)) := HM3.out.reg (p := 1) (by decide)
  have f1 := HM3.out.fz 8193
  have HM4 : Hid (IsMac (y3.setCell ⟨b, 8193, none⟩ (.int .u64 (x : Int))) b (setR (loaded 1 fun _ => X) 1 x)) := Lib.hid (HM3.out.setReg (d := 1) (by decide) x)
  have HB4 : Hid (Below w.heap.size w (y3.setCell ⟨b, 8193, none⟩ (.int .u64 (x : Int)))) := Lib.hid (HB3.out.setCell HB.out.2 _)
  go_upto_region 7 with (fail)
  clear k1 f1 HM3
  generalize y3.setCell ⟨b, 8193, none⟩ (.int .u64 (x : Int)) = y4 at *
  go_upto_region 9 with (fail)
  have HLM := Lib.hid (loadMac HM4.out)
  have z9 := zeroMac y4
  have HPQ : Hid (IsMac (y4.alloc (.cells (tab 8211 (mc (setR (loaded 1 fun _ => X) 1 x))) 87)) y4.heap.size (setR (loaded 1 fun _ => X) 1 x) ∧ IsMac (y4.alloc (.cells (tab 8211 (mc (setR (loaded 1 fun _ => X) 1 x))) 87)) b (setR (loaded 1 fun _ => X) 1 x) ∧ Below w.heap.size w (y4.alloc (.cells (tab 8211 (mc (setR (loaded 1 fun _ => X) 1 x))) 87))) := Lib.hid ⟨IsTab.new y4 _ 8211 _, HM4.out.below ((Below.refl _ _).alloc (Nat.le_refl _) _), HB4.out.alloc HB4.out.size _⟩
  generalize hcm : tab 8211 (mc (setR (loaded 1 fun _ => X) 1 x)) = cm at *
  generalize hzm : tab 8211 (mc m0) = zm at *
  have HZ : Hid (zm.size = 8211) := Lib.hid (by rw [← hzm, tab_size])
  have HCM := Lib.hid hcm
  clear hcm hzm
  go_upto_region 10 with (first
    | ((with_reducible refine wpList_loadE (P := Tryd.prog) (w := y4) (ty := 87) (x := .tmp 49) (p := .pointer (some ⟨b, 0, none⟩)) (v := .agg cm) ?_ ?_ ?_ HLM.out ?_); (· exact rfl); (· exact rfl); (· exact rfl))
    | ((with_reducible refine wpList_store_row (P := Tryd.prog) (w := y4.alloc (.cells zm 87)) ?_ 87 (.tmp 12) (.tmp 50) ?_ y4.heap.size cm ?_ ?_ 87 zm (heap_alloc_last y4 _) ?_ ?_ ?_ ?_); (· exact rfl); (· exact rfl); (· exact rfl); (· exact rfl); (· rw [← HCM.out]; exact infM _); (· rw [← HCM.out, HZ.out, tab_size]); (· rw [← HCM.out]; exact one_mc _); rw [World.setRow_alloc_new]; simp only [Act.put]))
  have HQB : Hid (b < y4.heap.size ∧ w.heap.size ≤ y4.heap.size) := Lib.hid ⟨HM4.out.lt, HB4.out.size⟩
  clear z9 HLM HZ HCM HM4 HB4 HB3
  generalize y4.heap.size = q at *
  generalize y4.alloc (.cells cm 87) = y5 at *
  have HFIN : Hid (jumpM (setR (loaded 1 fun _ => X) 1 x) 30 4 1 (wN (to.tmod 2147483648)) = { (setR (loaded 1 fun _ => X) 1 x) with pc := wN (to.tmod 2147483648) }) := Lib.hid (by
    unfold jumpM
    have := HTO.out; have h0 := HV.out; rw [(show (setR (loaded 1 fun _ => X) 1 x).reg 1 = x from rfl), if_neg (by omega), if_neg (by simp; omega)]; rfl)
  have HS := Lib.hid (Step_walk y5 b s (fun w' => IsMac w' b { (setR (loaded 1 fun _ => X) 1 x) with pc := wN (to.tmod 2147483648) } ∧ Kept (fun k => k = b) y5 w') (by
    have h := step_jump y5 b s (setR (loaded 1 fun _ => X) 1 x) X ⟨HPQ.out.2.1, ok_setR (ok_loaded 1 (fun _ => X) fun _ => HWI.out.lt) 1 x HX.out.1, rfl, (show 0 < 8192 by decide), rfl, HWI.out.ok⟩ (by rw [HWI.out.op]; decide)
    rw [HWI.out.op, HWI.out.d, HWI.out.a, HWI.out.n, HFIN.out] at h
    exact h))
  go_upto_region 12 with (go_at_call 36; (with_reducible refine HS.out.mono ?_); rintro e y6 ⟨he, hm, hk⟩; obtain rfl : e = _ := he; have HM6 := Lib.hid hm; have HQ6 := Lib.hid (HPQ.out.1.kept hk (by have := HQB.out.1; omega)); have HB6 : Hid (Below w.heap.size w y6) := Lib.hid (Wt.below_of HPQ.out.2.2 hk fun j _ hj => by rw [hj]; exact HB.out.2); clear hm hk HS)
  clear HPQ
  have k1 := HQ6.out.pc
  have f1 := HQ6.out.fz 8208
  have HQ7 : Hid (IsMac (y6.setCell ⟨q, 8208, none⟩ (.int .u64 (IntKind.u64.wrap (to.tmod 2147483648)))) q { (setR (loaded 1 fun _ => X) 1 x) with pc := wN (to.tmod 2147483648) }) := Lib.hid (by rw [wN_eq]; exact HQ6.out.setPc _)
  have HM7 := Lib.hid (HM6.out.kept (kept_set (S := fun k => k = q) (Kept.refl _ y6) q 8208 rfl (.int .u64 (IntKind.u64.wrap (to.tmod 2147483648)))) (by have := HQB.out.1; omega))
  have HB7 : Hid (Below w.heap.size w (y6.setCell ⟨q, 8208, none⟩ (.int .u64 (IntKind.u64.wrap (to.tmod 2147483648))))) := Lib.hid (HB6.out.setCell HQB.out.2 _)
  go_upto_region 22 with (fail)
  clear k1 f1
  generalize y6.setCell ⟨q, 8208, none⟩ (.int .u64 (IntKind.u64.wrap (to.tmod 2147483648))) = y7 at *
  have HM8 := HM7
  have HQ8 := HQ7
  have HB8 := HB7
  go_upto_region 24 with (fail)
  refine wp_region_og (fun z : World => y7.drew = z) (.take 0 (.take 1 (.take 2 (.take 3 (.take 4 (.take 5 .done)))))) (by kernel_rfl) (by kernel_rfl) rfl ?_
  have HB9 := Lib.hid HB8.out.drew
  have HM9 : Hid (IsMac y7.drew b { (setR (loaded 1 fun _ => X) 1 x) with pc := wN (to.tmod 2147483648) }) := Lib.hid (HM8.out.kept (Wt.kept_drew y7) id)
  have HQ9 : Hid (IsMac y7.drew q { (setR (loaded 1 fun _ => X) 1 x) with pc := wN (to.tmod 2147483648) }) := Lib.hid (HQ8.out.kept (Wt.kept_drew y7) id)
  have HE := Lib.hid (fun z : World => eqlM { (setR (loaded 1 fun _ => X) 1 x) with pc := wN (to.tmod 2147483648) } z)
  have HLB := Lib.hid (loadMac HM9.out)
  have HLQ := Lib.hid (loadMac HQ9.out)
  generalize tab 8211 (mc { (setR (loaded 1 fun _ => X) 1 x) with pc := wN (to.tmod 2147483648) }) = cf at *
  generalize y7.drew = y9 at *
  refine og_tk (some 98) (.pointer (some ⟨b, 0, none⟩)) rfl rfl (by go_simp) (fun _ _ => by simp [execOp, go_sem]) ?_
  simp only [Act.put, List.setIfInBounds_toArray, List.set_cons_zero, List.set_cons_succ]
  refine og_tk (some 99) (.pointer (some ⟨b, 0, none⟩)) rfl rfl (by go_simp) (fun _ _ => by simp [execOp, go_sem]) ?_
  simp only [Act.put, List.setIfInBounds_toArray, List.set_cons_zero, List.set_cons_succ]
  refine og_ld (some 100) 87 (.tmp 99) (.pointer (some ⟨b, 0, none⟩)) (.agg cf) rfl rfl (by go_simp) rfl rfl (fun y hy => hy ▸ HLB.out) ?_
  simp only [Act.put, List.setIfInBounds_toArray, List.set_cons_zero, List.set_cons_succ]
  refine og_ld (some 101) 87 (.tmp 12) (.pointer (some ⟨q, 0, none⟩)) (.agg cf) rfl rfl (by go_simp) rfl rfl (fun y hy => hy ▸ HLQ.out) ?_
  simp only [Act.put, List.setIfInBounds_toArray, List.set_cons_zero, List.set_cons_succ]
  refine og_eqM (some 102) (.tmp 100) (.tmp 101) cf cf (.bool true) rfl rfl (by go_simp) rfl rfl rfl (fun z _ => HE.out z) ?_
  simp only [Act.put, List.setIfInBounds_toArray, List.set_cons_zero, List.set_cons_succ]
  refine og_tk (some 8) (.bool true) rfl rfl (by go_simp) (fun _ _ => by simp [execOp, go_sem]) ?_
  simp only [Act.put, List.setIfInBounds_toArray, List.set_cons_zero, List.set_cons_succ]
  refine og_done (NoPanic.normal ?_)
  go_wp2_with (fail)
  exact bodyPost_ret (v := .bool true) (by simp [results, Tryd.results10, go_sem]) rfl ⟨rfl, HB9.out⟩
set_option maxHeartbeats 4000000 in
set_option maxRecDepth 100000 in
theorem vj_30f (kind to : Int) (x reg : Nat) (hx : x < 18446744073709551616) (hr : reg < 18446744073709551616) (hop : wrap64 (29 + wrap64 ((IntKind.u64.wrap kind).tmod 5)) = 30) (hv : x = 0) (hto : 8192 ≤ wN (to.tmod 2147483648)) (w : World) (hT : Laid.KTab w) :
    Calls Tryd.prog 10 #[.int .i64 kind, .int .u64 x, .int .i64 to, .int .u64 reg] w fun e w' => e = .returned (.bool true) ∧ Below w.heap.size w w' := by
  have HN := Lib.hid (tm31 to)
  have HX := Lib.hid (And.intro hx hr)
  have HOP := Lib.hid hop
  have HT := Lib.hid hT
  have t1 : decide (8192 ≤ IntKind.u64.wrap (to.tmod 2147483648)) = true := by rw [wN_eq]; simp; omega
  have HTO := Lib.hid hto
  clear hto
  have t2 : ((x : Int) == 0) = true := by simp; omega
  have HV := Lib.hid hv
  clear hv
  clear hx hr hop hT
  have HA : Hid (Below w.heap.size w (w.alloc (.cells #[.int .i64 30, .int .i64 4, .int .i64 1, .int .i64 0, .int .i64 0, .int .i64 (to.tmod 2147483648), .int .u64 0] 82)) ∧ (w.alloc (.cells #[.int .i64 30, .int .i64 4, .int .i64 1, .int .i64 0, .int .i64 0, .int .i64 (to.tmod 2147483648), .int .u64 0] 82)).heap.size = w.heap.size + 1) := Lib.hid ⟨(Below.refl _ _).alloc (Nat.le_refl _) _, by simp⟩
  have HC := Lib.hid (loadedOf_walk (w.alloc (.cells #[.int .i64 30, .int .i64 4, .int .i64 1, .int .i64 0, .int .i64 0, .int .i64 (to.tmod 2147483648), .int .u64 0] 82)) w.heap.size 0 1 1 (fun _ => insOf 30 4 1 0 0 (to.tmod 2147483648)) (isIns_new w (insOf 30 4 1 0 0 (to.tmod 2147483648)) _) (by rw [HA.out.2]; omega) (by decide) (by decide))
  have HWI := Lib.hid (word_of 30 4 1 0 0 (to.tmod 2147483648) (by decide) (by decide) (by decide) (by decide) (by decide) HN.out)
  generalize wordOf (insOf 30 4 1 0 0 (to.tmod 2147483648)) = X at *
  go_enter Tryd.func10, Tryd.ntmps10
  go_upto_region 2 with (fail)
  rw [HOP.out]
  go_upto_region 3 with (go_at_call 34; (with_reducible refine HC.out.mono ?_); rintro e y ⟨b, he, hm, hb, hk⟩; obtain rfl : e = _ := he; have HM := Lib.hid hm; have HB : Hid (Below w.heap.size w y ∧ w.heap.size ≤ b) := Lib.hid ⟨bl HA.out.1 hk, Nat.le_trans (by rw [HA.out.2]; omega) hb⟩; clear hm hb hk HC)
  have hT1 := ktab_below HT.out HB.out.1
  have HN1 := Lib.hid (Wt.New_walk y hT1 (lowB_le' hT1))
  clear hT1 HA
  go_upto_region 4 with (go_at_call 13; (with_reducible refine HN1.out.mono ?_); rintro e y2 ⟨s, T, kb, fb, he, hst, hb, hx⟩; obtain rfl : e = _ := he; have HM2 := Lib.hid (HM.out.below hb); have HB2 : Hid (Below w.heap.size w y2) := Lib.hid (bl HB.out.1 hb); clear hst hb hx HN1)
  have hT2 := ktab_below HT.out HB2.out
  have HF := Lib.hid (fixed10_walk y2 hT2 (lowB_le' hT2))
  clear hT2 HM
  go_upto_region 6 with (go_at_call 35; (with_reducible refine HF.out.mono ?_); rintro e y3 ⟨he, hb⟩; obtain rfl : e = _ := he; have HM3 := Lib.hid (HM2.out.below hb); have HB3 : Hid (Below w.heap.size w y3) := Lib.hid (bl HB2.out hb); clear hb HF HM2)
  have k1 : y3.cell? ⟨b, 8193, none⟩ = some (.int .u64 ((0 : Nat) : Int)) := HM3.out.reg (p := 1) (by decide)
  have f1 := HM3.out.fz 8193
  have HM4 : Hid (IsMac (y3.setCell ⟨b, 8193, none⟩ (.int .u64 (x : Int))) b (setR (loaded 1 fun _ => X) 1 x)) := Lib.hid (HM3.out.setReg (d := 1) (by decide) x)
  have HB4 : Hid (Below w.heap.size w (y3.setCell ⟨b, 8193, none⟩ (.int .u64 (x : Int)))) := Lib.hid (HB3.out.setCell HB.out.2 _)
  go_upto_region 7 with (fail)
  clear k1 f1 HM3
  generalize y3.setCell ⟨b, 8193, none⟩ (.int .u64 (x : Int)) = y4 at *
  go_upto_region 9 with (fail)
  have HLM := Lib.hid (loadMac HM4.out)
  have z9 := zeroMac y4
  have HPQ : Hid (IsMac (y4.alloc (.cells (tab 8211 (mc (setR (loaded 1 fun _ => X) 1 x))) 87)) y4.heap.size (setR (loaded 1 fun _ => X) 1 x) ∧ IsMac (y4.alloc (.cells (tab 8211 (mc (setR (loaded 1 fun _ => X) 1 x))) 87)) b (setR (loaded 1 fun _ => X) 1 x) ∧ Below w.heap.size w (y4.alloc (.cells (tab 8211 (mc (setR (loaded 1 fun _ => X) 1 x))) 87))) := Lib.hid ⟨IsTab.new y4 _ 8211 _, HM4.out.below ((Below.refl _ _).alloc (Nat.le_refl _) _), HB4.out.alloc HB4.out.size _⟩
  generalize hcm : tab 8211 (mc (setR (loaded 1 fun _ => X) 1 x)) = cm at *
  generalize hzm : tab 8211 (mc m0) = zm at *
  have HZ : Hid (zm.size = 8211) := Lib.hid (by rw [← hzm, tab_size])
  have HCM := Lib.hid hcm
  clear hcm hzm
  go_upto_region 10 with (first
    | ((with_reducible refine wpList_loadE (P := Tryd.prog) (w := y4) (ty := 87) (x := .tmp 49) (p := .pointer (some ⟨b, 0, none⟩)) (v := .agg cm) ?_ ?_ ?_ HLM.out ?_); (· exact rfl); (· exact rfl); (· exact rfl))
    | ((with_reducible refine wpList_store_row (P := Tryd.prog) (w := y4.alloc (.cells zm 87)) ?_ 87 (.tmp 12) (.tmp 50) ?_ y4.heap.size cm ?_ ?_ 87 zm (heap_alloc_last y4 _) ?_ ?_ ?_ ?_); (· exact rfl); (· exact rfl); (· exact rfl); (· exact rfl); (· rw [← HCM.out]; exact infM _); (· rw [← HCM.out, HZ.out, tab_size]); (· rw [← HCM.out]; exact one_mc _); rw [World.setRow_alloc_new]; simp only [Act.put]))
  have HQB : Hid (b < y4.heap.size ∧ w.heap.size ≤ y4.heap.size) := Lib.hid ⟨HM4.out.lt, HB4.out.size⟩
  clear z9 HLM HZ HCM HM4 HB4 HB3
  generalize y4.heap.size = q at *
  generalize y4.alloc (.cells cm 87) = y5 at *
  have HFIN : Hid (jumpM (setR (loaded 1 fun _ => X) 1 x) 30 4 1 (wN (to.tmod 2147483648)) = (stopM (setR (loaded 1 fun _ => X) 1 x) 18446744073709551614)) := Lib.hid (by
    unfold jumpM
    have := HTO.out; have h0 := HV.out; rw [(show (setR (loaded 1 fun _ => X) 1 x).reg 1 = x from rfl), if_neg (by omega), if_pos (by simp; omega)])
  have HS := Lib.hid (Step_walk y5 b s (fun w' => IsMac w' b (stopM (setR (loaded 1 fun _ => X) 1 x) 18446744073709551614) ∧ Kept (fun k => k = b) y5 w') (by
    have h := step_jump y5 b s (setR (loaded 1 fun _ => X) 1 x) X ⟨HPQ.out.2.1, ok_setR (ok_loaded 1 (fun _ => X) fun _ => HWI.out.lt) 1 x HX.out.1, rfl, (show 0 < 8192 by decide), rfl, HWI.out.ok⟩ (by rw [HWI.out.op]; decide)
    rw [HWI.out.op, HWI.out.d, HWI.out.a, HWI.out.n, HFIN.out] at h
    exact h))
  go_upto_region 12 with (go_at_call 36; (with_reducible refine HS.out.mono ?_); rintro e y6 ⟨he, hm, hk⟩; obtain rfl : e = _ := he; have HM6 := Lib.hid hm; have HQ6 := Lib.hid (HPQ.out.1.kept hk (by have := HQB.out.1; omega)); have HB6 : Hid (Below w.heap.size w y6) := Lib.hid (Wt.below_of HPQ.out.2.2 hk fun j _ hj => by rw [hj]; exact HB.out.2); clear hm hk HS)
  clear HPQ
  go_upto_region 19 with (fail)
  have k1 := HQ6.out.halted
  have f1 := HQ6.out.fz 8209
  have k2 := HQ6.out.exit
  have f2 := HQ6.out.fz 8210
  have HQ8 : Hid (IsMac ((y6.setCell ⟨q, 8209, none⟩ (.bool true)).setCell ⟨q, 8210, none⟩ (.int .u64 18446744073709551614)) q (stopM (setR (loaded 1 fun _ => X) 1 x) 18446744073709551614)) := Lib.hid ((HQ6.out.setHalted true).setExit 18446744073709551614)
  have HM8 := Lib.hid (HM6.out.kept (kept_set (S := fun k => k = q) (kept_set (S := fun k => k = q) (Kept.refl _ y6) q 8209 rfl (.bool true)) q 8210 rfl (.int .u64 18446744073709551614)) (by have := HQB.out.1; omega))
  have HB8 : Hid (Below w.heap.size w ((y6.setCell ⟨q, 8209, none⟩ (.bool true)).setCell ⟨q, 8210, none⟩ (.int .u64 18446744073709551614))) := Lib.hid ((HB6.out.setCell HQB.out.2 _).setCell HQB.out.2 _)
  go_upto_region 20 with (fail)
  clear k1 f1 k2 f2
  generalize (y6.setCell ⟨q, 8209, none⟩ (.bool true)).setCell ⟨q, 8210, none⟩ (.int .u64 18446744073709551614) = y8 at *
  refine wp_region_og (fun z : World => y8.drew = z) (.take 0 (.take 1 (.take 2 (.take 3 (.take 4 (.take 5 .done)))))) (by kernel_rfl) (by kernel_rfl) rfl ?_
  have HB9 := Lib.hid HB8.out.drew
  have HM9 : Hid (IsMac y8.drew b (stopM (setR (loaded 1 fun _ => X) 1 x) 18446744073709551614)) := Lib.hid (HM8.out.kept (Wt.kept_drew y8) id)
  have HQ9 : Hid (IsMac y8.drew q (stopM (setR (loaded 1 fun _ => X) 1 x) 18446744073709551614)) := Lib.hid (HQ8.out.kept (Wt.kept_drew y8) id)
  have HE := Lib.hid (fun z : World => eqlM (stopM (setR (loaded 1 fun _ => X) 1 x) 18446744073709551614) z)
  have HLB := Lib.hid (loadMac HM9.out)
  have HLQ := Lib.hid (loadMac HQ9.out)
  generalize tab 8211 (mc (stopM (setR (loaded 1 fun _ => X) 1 x) 18446744073709551614)) = cf at *
  generalize y8.drew = y9 at *
  refine og_tk (some 87) (.pointer (some ⟨b, 0, none⟩)) rfl rfl (by go_simp) (fun _ _ => by simp [execOp, go_sem]) ?_
  simp only [Act.put, List.setIfInBounds_toArray, List.set_cons_zero, List.set_cons_succ]
  refine og_tk (some 88) (.pointer (some ⟨b, 0, none⟩)) rfl rfl (by go_simp) (fun _ _ => by simp [execOp, go_sem]) ?_
  simp only [Act.put, List.setIfInBounds_toArray, List.set_cons_zero, List.set_cons_succ]
  refine og_ld (some 89) 87 (.tmp 88) (.pointer (some ⟨b, 0, none⟩)) (.agg cf) rfl rfl (by go_simp) rfl rfl (fun y hy => hy ▸ HLB.out) ?_
  simp only [Act.put, List.setIfInBounds_toArray, List.set_cons_zero, List.set_cons_succ]
  refine og_ld (some 90) 87 (.tmp 12) (.pointer (some ⟨q, 0, none⟩)) (.agg cf) rfl rfl (by go_simp) rfl rfl (fun y hy => hy ▸ HLQ.out) ?_
  simp only [Act.put, List.setIfInBounds_toArray, List.set_cons_zero, List.set_cons_succ]
  refine og_eqM (some 91) (.tmp 89) (.tmp 90) cf cf (.bool true) rfl rfl (by go_simp) rfl rfl rfl (fun z _ => HE.out z) ?_
  simp only [Act.put, List.setIfInBounds_toArray, List.set_cons_zero, List.set_cons_succ]
  refine og_tk (some 8) (.bool true) rfl rfl (by go_simp) (fun _ _ => by simp [execOp, go_sem]) ?_
  simp only [Act.put, List.setIfInBounds_toArray, List.set_cons_zero, List.set_cons_succ]
  refine og_done (NoPanic.normal ?_)
  go_wp2_with (fail)
  exact bodyPost_ret (v := .bool true) (by simp [results, Tryd.results10, go_sem]) rfl ⟨rfl, HB9.out⟩
set_option maxHeartbeats 4000000 in
set_option maxRecDepth 100000 in
theorem vj_31o (kind to : Int) (x reg : Nat) (hx : x < 18446744073709551616) (hr : reg < 18446744073709551616) (hop : wrap64 (29 + wrap64 ((IntKind.u64.wrap kind).tmod 5)) = 31) (hv : x = 0) (w : World) (hT : Laid.KTab w) :
    Calls Tryd.prog 10 #[.int .i64 kind, .int .u64 x, .int .i64 to, .int .u64 reg] w fun e w' => e = .returned (.bool true) ∧ Below w.heap.size w w' := by
  have HN := Lib.hid (tm31 to)
  have HX := Lib.hid (And.intro hx hr)
  have HOP := Lib.hid hop
  have HT := Lib.hid hT
  have t2 : ((x : Int) == 0) = true := by simp; omega
  have HV := Lib.hid hv
  clear hv
  clear hx hr hop hT
  have HA : Hid (Below w.heap.size w (w.alloc (.cells #[.int .i64 31, .int .i64 4, .int .i64 1, .int .i64 0, .int .i64 0, .int .i64 (to.tmod 2147483648), .int .u64 0] 82)) ∧ (w.alloc (.cells #[.int .i64 31, .int .i64 4, .int .i64 1, .int .i64 0, .int .i64 0, .int .i64 (to.tmod 2147483648), .int .u64 0] 82)).heap.size = w.heap.size + 1) := Lib.hid ⟨(Below.refl _ _).alloc (Nat.le_refl _) _, by simp⟩
  have HC := Lib.hid (loadedOf_walk (w.alloc (.cells #[.int .i64 31, .int .i64 4, .int .i64 1, .int .i64 0, .int .i64 0, .int .i64 (to.tmod 2147483648), .int .u64 0] 82)) w.heap.size 0 1 1 (fun _ => insOf 31 4 1 0 0 (to.tmod 2147483648)) (isIns_new w (insOf 31 4 1 0 0 (to.tmod 2147483648)) _) (by rw [HA.out.2]; omega) (by decide) (by decide))
  have HWI := Lib.hid (word_of 31 4 1 0 0 (to.tmod 2147483648) (by decide) (by decide) (by decide) (by decide) (by decide) HN.out)
  generalize wordOf (insOf 31 4 1 0 0 (to.tmod 2147483648)) = X at *
  go_enter Tryd.func10, Tryd.ntmps10
  go_upto_region 2 with (fail)
  rw [HOP.out]
  go_upto_region 3 with (go_at_call 34; (with_reducible refine HC.out.mono ?_); rintro e y ⟨b, he, hm, hb, hk⟩; obtain rfl : e = _ := he; have HM := Lib.hid hm; have HB : Hid (Below w.heap.size w y ∧ w.heap.size ≤ b) := Lib.hid ⟨bl HA.out.1 hk, Nat.le_trans (by rw [HA.out.2]; omega) hb⟩; clear hm hb hk HC)
  have hT1 := ktab_below HT.out HB.out.1
  have HN1 := Lib.hid (Wt.New_walk y hT1 (lowB_le' hT1))
  clear hT1 HA
  go_upto_region 4 with (go_at_call 13; (with_reducible refine HN1.out.mono ?_); rintro e y2 ⟨s, T, kb, fb, he, hst, hb, hx⟩; obtain rfl : e = _ := he; have HM2 := Lib.hid (HM.out.below hb); have HB2 : Hid (Below w.heap.size w y2) := Lib.hid (bl HB.out.1 hb); clear hst hb hx HN1)
  have hT2 := ktab_below HT.out HB2.out
  have HF := Lib.hid (fixed10_walk y2 hT2 (lowB_le' hT2))
  clear hT2 HM
  go_upto_region 6 with (go_at_call 35; (with_reducible refine HF.out.mono ?_); rintro e y3 ⟨he, hb⟩; obtain rfl : e = _ := he; have HM3 := Lib.hid (HM2.out.below hb); have HB3 : Hid (Below w.heap.size w y3) := Lib.hid (bl HB2.out hb); clear hb HF HM2)
  have k1 : y3.cell? ⟨b, 8193, none⟩ = some (.int .u64 ((0 : Nat) : Int)) := HM3.out.reg (p := 1) (by decide)
  have f1 := HM3.out.fz 8193
  have HM4 : Hid (IsMac (y3.setCell ⟨b, 8193, none⟩ (.int .u64 (x : Int))) b (setR (loaded 1 fun _ => X) 1 x)) := Lib.hid (HM3.out.setReg (d := 1) (by decide) x)
  have HB4 : Hid (Below w.heap.size w (y3.setCell ⟨b, 8193, none⟩ (.int .u64 (x : Int)))) := Lib.hid (HB3.out.setCell HB.out.2 _)
  go_upto_region 7 with (fail)
  clear k1 f1 HM3
  generalize y3.setCell ⟨b, 8193, none⟩ (.int .u64 (x : Int)) = y4 at *
  go_upto_region 9 with (fail)
  have HLM := Lib.hid (loadMac HM4.out)
  have z9 := zeroMac y4
  have HPQ : Hid (IsMac (y4.alloc (.cells (tab 8211 (mc (setR (loaded 1 fun _ => X) 1 x))) 87)) y4.heap.size (setR (loaded 1 fun _ => X) 1 x) ∧ IsMac (y4.alloc (.cells (tab 8211 (mc (setR (loaded 1 fun _ => X) 1 x))) 87)) b (setR (loaded 1 fun _ => X) 1 x) ∧ Below w.heap.size w (y4.alloc (.cells (tab 8211 (mc (setR (loaded 1 fun _ => X) 1 x))) 87))) := Lib.hid ⟨IsTab.new y4 _ 8211 _, HM4.out.below ((Below.refl _ _).alloc (Nat.le_refl _) _), HB4.out.alloc HB4.out.size _⟩
  generalize hcm : tab 8211 (mc (setR (loaded 1 fun _ => X) 1 x)) = cm at *
  generalize hzm : tab 8211 (mc m0) = zm at *
  have HZ : Hid (zm.size = 8211) := Lib.hid (by rw [← hzm, tab_size])
  have HCM := Lib.hid hcm
  clear hcm hzm
  go_upto_region 10 with (first
    | ((with_reducible refine wpList_loadE (P := Tryd.prog) (w := y4) (ty := 87) (x := .tmp 49) (p := .pointer (some ⟨b, 0, none⟩)) (v := .agg cm) ?_ ?_ ?_ HLM.out ?_); (· exact rfl); (· exact rfl); (· exact rfl))
    | ((with_reducible refine wpList_store_row (P := Tryd.prog) (w := y4.alloc (.cells zm 87)) ?_ 87 (.tmp 12) (.tmp 50) ?_ y4.heap.size cm ?_ ?_ 87 zm (heap_alloc_last y4 _) ?_ ?_ ?_ ?_); (· exact rfl); (· exact rfl); (· exact rfl); (· exact rfl); (· rw [← HCM.out]; exact infM _); (· rw [← HCM.out, HZ.out, tab_size]); (· rw [← HCM.out]; exact one_mc _); rw [World.setRow_alloc_new]; simp only [Act.put]))
  have HQB : Hid (b < y4.heap.size ∧ w.heap.size ≤ y4.heap.size) := Lib.hid ⟨HM4.out.lt, HB4.out.size⟩
  clear z9 HLM HZ HCM HM4 HB4 HB3
  generalize y4.heap.size = q at *
  generalize y4.alloc (.cells cm 87) = y5 at *
  have HFIN : Hid (jumpM (setR (loaded 1 fun _ => X) 1 x) 31 4 1 (wN (to.tmod 2147483648)) = { (setR (loaded 1 fun _ => X) 1 x) with pc := 1 }) := Lib.hid (by
    unfold jumpM
    rw [if_pos (.inr ⟨rfl, HV.out⟩)]; rfl)
  have HS := Lib.hid (Step_walk y5 b s (fun w' => IsMac w' b { (setR (loaded 1 fun _ => X) 1 x) with pc := 1 } ∧ Kept (fun k => k = b) y5 w') (by
    have h := step_jump y5 b s (setR (loaded 1 fun _ => X) 1 x) X ⟨HPQ.out.2.1, ok_setR (ok_loaded 1 (fun _ => X) fun _ => HWI.out.lt) 1 x HX.out.1, rfl, (show 0 < 8192 by decide), rfl, HWI.out.ok⟩ (by rw [HWI.out.op]; decide)
    rw [HWI.out.op, HWI.out.d, HWI.out.a, HWI.out.n, HFIN.out] at h
    exact h))
  go_upto_region 12 with (go_at_call 36; (with_reducible refine HS.out.mono ?_); rintro e y6 ⟨he, hm, hk⟩; obtain rfl : e = _ := he; have HM6 := Lib.hid hm; have HQ6 := Lib.hid (HPQ.out.1.kept hk (by have := HQB.out.1; omega)); have HB6 : Hid (Below w.heap.size w y6) := Lib.hid (Wt.below_of HPQ.out.2.2 hk fun j _ hj => by rw [hj]; exact HB.out.2); clear hm hk HS)
  clear HPQ
  have k1 := HQ6.out.pc
  have f1 := HQ6.out.fz 8208
  have HQ7 : Hid (IsMac (y6.setCell ⟨q, 8208, none⟩ (.int .u64 1)) q { (setR (loaded 1 fun _ => X) 1 x) with pc := 1 }) := Lib.hid (HQ6.out.setPc 1)
  have HM7 := Lib.hid (HM6.out.kept (kept_set (S := fun k => k = q) (Kept.refl _ y6) q 8208 rfl (.int .u64 1)) (by have := HQB.out.1; omega))
  have HB7 : Hid (Below w.heap.size w (y6.setCell ⟨q, 8208, none⟩ (.int .u64 1))) := Lib.hid (HB6.out.setCell HQB.out.2 _)
  go_upto_region 15 with (fail)
  clear k1 f1
  have HM8 := HM7
  have HQ8 := HQ7
  have HB8 := HB7
  generalize y6.setCell ⟨q, 8208, none⟩ (.int .u64 1) = y8 at *
  refine wp_region_og (fun z : World => y8.drew = z) (.take 0 (.take 1 (.take 2 (.take 3 (.take 4 (.take 5 .done)))))) (by kernel_rfl) (by kernel_rfl) rfl ?_
  have HB9 := Lib.hid HB8.out.drew
  have HM9 : Hid (IsMac y8.drew b { (setR (loaded 1 fun _ => X) 1 x) with pc := 1 }) := Lib.hid (HM8.out.kept (Wt.kept_drew y8) id)
  have HQ9 : Hid (IsMac y8.drew q { (setR (loaded 1 fun _ => X) 1 x) with pc := 1 }) := Lib.hid (HQ8.out.kept (Wt.kept_drew y8) id)
  have HE := Lib.hid (fun z : World => eqlM { (setR (loaded 1 fun _ => X) 1 x) with pc := 1 } z)
  have HLB := Lib.hid (loadMac HM9.out)
  have HLQ := Lib.hid (loadMac HQ9.out)
  generalize tab 8211 (mc { (setR (loaded 1 fun _ => X) 1 x) with pc := 1 }) = cf at *
  generalize y8.drew = y9 at *
  refine og_tk (some 74) (.pointer (some ⟨b, 0, none⟩)) rfl rfl (by go_simp) (fun _ _ => by simp [execOp, go_sem]) ?_
  simp only [Act.put, List.setIfInBounds_toArray, List.set_cons_zero, List.set_cons_succ]
  refine og_tk (some 75) (.pointer (some ⟨b, 0, none⟩)) rfl rfl (by go_simp) (fun _ _ => by simp [execOp, go_sem]) ?_
  simp only [Act.put, List.setIfInBounds_toArray, List.set_cons_zero, List.set_cons_succ]
  refine og_ld (some 76) 87 (.tmp 75) (.pointer (some ⟨b, 0, none⟩)) (.agg cf) rfl rfl (by go_simp) rfl rfl (fun y hy => hy ▸ HLB.out) ?_
  simp only [Act.put, List.setIfInBounds_toArray, List.set_cons_zero, List.set_cons_succ]
  refine og_ld (some 77) 87 (.tmp 12) (.pointer (some ⟨q, 0, none⟩)) (.agg cf) rfl rfl (by go_simp) rfl rfl (fun y hy => hy ▸ HLQ.out) ?_
  simp only [Act.put, List.setIfInBounds_toArray, List.set_cons_zero, List.set_cons_succ]
  refine og_eqM (some 78) (.tmp 76) (.tmp 77) cf cf (.bool true) rfl rfl (by go_simp) rfl rfl rfl (fun z _ => HE.out z) ?_
  simp only [Act.put, List.setIfInBounds_toArray, List.set_cons_zero, List.set_cons_succ]
  refine og_tk (some 8) (.bool true) rfl rfl (by go_simp) (fun _ _ => by simp [execOp, go_sem]) ?_
  simp only [Act.put, List.setIfInBounds_toArray, List.set_cons_zero, List.set_cons_succ]
  refine og_done (NoPanic.normal ?_)
  go_wp2_with (fail)
  exact bodyPost_ret (v := .bool true) (by simp [results, Tryd.results10, go_sem]) rfl ⟨rfl, HB9.out⟩
set_option maxHeartbeats 4000000 in
set_option maxRecDepth 100000 in
theorem vj_31n (kind to : Int) (x reg : Nat) (hx : x < 18446744073709551616) (hr : reg < 18446744073709551616) (hop : wrap64 (29 + wrap64 ((IntKind.u64.wrap kind).tmod 5)) = 31) (hv : x ≠ 0) (hto : wN (to.tmod 2147483648) < 8192) (w : World) (hT : Laid.KTab w) :
    Calls Tryd.prog 10 #[.int .i64 kind, .int .u64 x, .int .i64 to, .int .u64 reg] w fun e w' => e = .returned (.bool true) ∧ Below w.heap.size w w' := by
  have HN := Lib.hid (tm31 to)
  have HX := Lib.hid (And.intro hx hr)
  have HOP := Lib.hid hop
  have HT := Lib.hid hT
  have t1 : decide (8192 ≤ IntKind.u64.wrap (to.tmod 2147483648)) = false := by rw [wN_eq]; simp; omega
  have HTO := Lib.hid hto
  clear hto
  have t2 : ((x : Int) == 0) = false := by simp; omega
  have HV := Lib.hid hv
  clear hv
  clear hx hr hop hT
  have HA : Hid (Below w.heap.size w (w.alloc (.cells #[.int .i64 31, .int .i64 4, .int .i64 1, .int .i64 0, .int .i64 0, .int .i64 (to.tmod 2147483648), .int .u64 0] 82)) ∧ (w.alloc (.cells #[.int .i64 31, .int .i64 4, .int .i64 1, .int .i64 0, .int .i64 0, .int .i64 (to.tmod 2147483648), .int .u64 0] 82)).heap.size = w.heap.size + 1) := Lib.hid ⟨(Below.refl _ _).alloc (Nat.le_refl _) _, by simp⟩
  have HC := Lib.hid (loadedOf_walk (w.alloc (.cells #[.int .i64 31, .int .i64 4, .int .i64 1, .int .i64 0, .int .i64 0, .int .i64 (to.tmod 2147483648), .int .u64 0] 82)) w.heap.size 0 1 1 (fun _ => insOf 31 4 1 0 0 (to.tmod 2147483648)) (isIns_new w (insOf 31 4 1 0 0 (to.tmod 2147483648)) _) (by rw [HA.out.2]; omega) (by decide) (by decide))
  have HWI := Lib.hid (word_of 31 4 1 0 0 (to.tmod 2147483648) (by decide) (by decide) (by decide) (by decide) (by decide) HN.out)
  generalize wordOf (insOf 31 4 1 0 0 (to.tmod 2147483648)) = X at *
  go_enter Tryd.func10, Tryd.ntmps10
  go_upto_region 2 with (fail)
  rw [HOP.out]
  go_upto_region 3 with (go_at_call 34; (with_reducible refine HC.out.mono ?_); rintro e y ⟨b, he, hm, hb, hk⟩; obtain rfl : e = _ := he; have HM := Lib.hid hm; have HB : Hid (Below w.heap.size w y ∧ w.heap.size ≤ b) := Lib.hid ⟨bl HA.out.1 hk, Nat.le_trans (by rw [HA.out.2]; omega) hb⟩; clear hm hb hk HC)
  have hT1 := ktab_below HT.out HB.out.1
  have HN1 := Lib.hid (Wt.New_walk y hT1 (lowB_le' hT1))
  clear hT1 HA
  go_upto_region 4 with (go_at_call 13; (with_reducible refine HN1.out.mono ?_); rintro e y2 ⟨s, T, kb, fb, he, hst, hb, hx⟩; obtain rfl : e = _ := he; have HM2 := Lib.hid (HM.out.below hb); have HB2 : Hid (Below w.heap.size w y2) := Lib.hid (bl HB.out.1 hb); clear hst hb hx HN1)
  have hT2 := ktab_below HT.out HB2.out
  have HF := Lib.hid (fixed10_walk y2 hT2 (lowB_le' hT2))
  clear hT2 HM
  go_upto_region 6 with (go_at_call 35; (with_reducible refine HF.out.mono ?_); rintro e y3 ⟨he, hb⟩; obtain rfl : e = _ := he; have HM3 := Lib.hid (HM2.out.below hb); have HB3 : Hid (Below w.heap.size w y3) := Lib.hid (bl HB2.out hb); clear hb HF HM2)
  have k1 : y3.cell? ⟨b, 8193, none⟩ = some (.int .u64 ((0 : Nat) : Int)) := HM3.out.reg (p := 1) (by decide)
  have f1 := HM3.out.fz 8193
  have HM4 : Hid (IsMac (y3.setCell ⟨b, 8193, none⟩ (.int .u64 (x : Int))) b (setR (loaded 1 fun _ => X) 1 x)) := Lib.hid (HM3.out.setReg (d := 1) (by decide) x)
  have HB4 : Hid (Below w.heap.size w (y3.setCell ⟨b, 8193, none⟩ (.int .u64 (x : Int)))) := Lib.hid (HB3.out.setCell HB.out.2 _)
  go_upto_region 7 with (fail)
  clear k1 f1 HM3
  generalize y3.setCell ⟨b, 8193, none⟩ (.int .u64 (x : Int)) = y4 at *
  go_upto_region 9 with (fail)
  have HLM := Lib.hid (loadMac HM4.out)
  have z9 := zeroMac y4
  have HPQ : Hid (IsMac (y4.alloc (.cells (tab 8211 (mc (setR (loaded 1 fun _ => X) 1 x))) 87)) y4.heap.size (setR (loaded 1 fun _ => X) 1 x) ∧ IsMac (y4.alloc (.cells (tab 8211 (mc (setR (loaded 1 fun _ => X) 1 x))) 87)) b (setR (loaded 1 fun _ => X) 1 x) ∧ Below w.heap.size w (y4.alloc (.cells (tab 8211 (mc (setR (loaded 1 fun _ => X) 1 x))) 87))) := Lib.hid ⟨IsTab.new y4 _ 8211 _, HM4.out.below ((Below.refl _ _).alloc (Nat.le_refl _) _), HB4.out.alloc HB4.out.size _⟩
  generalize hcm : tab 8211 (mc (setR (loaded 1 fun _ => X) 1 x)) = cm at *
  generalize hzm : tab 8211 (mc m0) = zm at *
  have HZ : Hid (zm.size = 8211) := Lib.hid (by rw [← hzm, tab_size])
  have HCM := Lib.hid hcm
  clear hcm hzm
  go_upto_region 10 with (first
    | ((with_reducible refine wpList_loadE (P := Tryd.prog) (w := y4) (ty := 87) (x := .tmp 49) (p := .pointer (some ⟨b, 0, none⟩)) (v := .agg cm) ?_ ?_ ?_ HLM.out ?_); (· exact rfl); (· exact rfl); (· exact rfl))
    | ((with_reducible refine wpList_store_row (P := Tryd.prog) (w := y4.alloc (.cells zm 87)) ?_ 87 (.tmp 12) (.tmp 50) ?_ y4.heap.size cm ?_ ?_ 87 zm (heap_alloc_last y4 _) ?_ ?_ ?_ ?_); (· exact rfl); (· exact rfl); (· exact rfl); (· exact rfl); (· rw [← HCM.out]; exact infM _); (· rw [← HCM.out, HZ.out, tab_size]); (· rw [← HCM.out]; exact one_mc _); rw [World.setRow_alloc_new]; simp only [Act.put]))
  have HQB : Hid (b < y4.heap.size ∧ w.heap.size ≤ y4.heap.size) := Lib.hid ⟨HM4.out.lt, HB4.out.size⟩
  clear z9 HLM HZ HCM HM4 HB4 HB3
  generalize y4.heap.size = q at *
  generalize y4.alloc (.cells cm 87) = y5 at *
  have HFIN : Hid (jumpM (setR (loaded 1 fun _ => X) 1 x) 31 4 1 (wN (to.tmod 2147483648)) = { (setR (loaded 1 fun _ => X) 1 x) with pc := wN (to.tmod 2147483648) }) := Lib.hid (by
    unfold jumpM
    have := HTO.out; have h0 := HV.out; rw [(show (setR (loaded 1 fun _ => X) 1 x).reg 1 = x from rfl), if_neg (by omega), if_neg (by simp; omega)]; rfl)
  have HS := Lib.hid (Step_walk y5 b s (fun w' => IsMac w' b { (setR (loaded 1 fun _ => X) 1 x) with pc := wN (to.tmod 2147483648) } ∧ Kept (fun k => k = b) y5 w') (by
    have h := step_jump y5 b s (setR (loaded 1 fun _ => X) 1 x) X ⟨HPQ.out.2.1, ok_setR (ok_loaded 1 (fun _ => X) fun _ => HWI.out.lt) 1 x HX.out.1, rfl, (show 0 < 8192 by decide), rfl, HWI.out.ok⟩ (by rw [HWI.out.op]; decide)
    rw [HWI.out.op, HWI.out.d, HWI.out.a, HWI.out.n, HFIN.out] at h
    exact h))
  go_upto_region 12 with (go_at_call 36; (with_reducible refine HS.out.mono ?_); rintro e y6 ⟨he, hm, hk⟩; obtain rfl : e = _ := he; have HM6 := Lib.hid hm; have HQ6 := Lib.hid (HPQ.out.1.kept hk (by have := HQB.out.1; omega)); have HB6 : Hid (Below w.heap.size w y6) := Lib.hid (Wt.below_of HPQ.out.2.2 hk fun j _ hj => by rw [hj]; exact HB.out.2); clear hm hk HS)
  clear HPQ
  have k1 := HQ6.out.pc
  have f1 := HQ6.out.fz 8208
  have HQ7 : Hid (IsMac (y6.setCell ⟨q, 8208, none⟩ (.int .u64 (IntKind.u64.wrap (to.tmod 2147483648)))) q { (setR (loaded 1 fun _ => X) 1 x) with pc := wN (to.tmod 2147483648) }) := Lib.hid (by rw [wN_eq]; exact HQ6.out.setPc _)
  have HM7 := Lib.hid (HM6.out.kept (kept_set (S := fun k => k = q) (Kept.refl _ y6) q 8208 rfl (.int .u64 (IntKind.u64.wrap (to.tmod 2147483648)))) (by have := HQB.out.1; omega))
  have HB7 : Hid (Below w.heap.size w (y6.setCell ⟨q, 8208, none⟩ (.int .u64 (IntKind.u64.wrap (to.tmod 2147483648))))) := Lib.hid (HB6.out.setCell HQB.out.2 _)
  go_upto_region 22 with (fail)
  clear k1 f1
  generalize y6.setCell ⟨q, 8208, none⟩ (.int .u64 (IntKind.u64.wrap (to.tmod 2147483648))) = y7 at *
  have HM8 := HM7
  have HQ8 := HQ7
  have HB8 := HB7
  go_upto_region 24 with (fail)
  refine wp_region_og (fun z : World => y7.drew = z) (.take 0 (.take 1 (.take 2 (.take 3 (.take 4 (.take 5 .done)))))) (by kernel_rfl) (by kernel_rfl) rfl ?_
  have HB9 := Lib.hid HB8.out.drew
  have HM9 : Hid (IsMac y7.drew b { (setR (loaded 1 fun _ => X) 1 x) with pc := wN (to.tmod 2147483648) }) := Lib.hid (HM8.out.kept (Wt.kept_drew y7) id)
  have HQ9 : Hid (IsMac y7.drew q { (setR (loaded 1 fun _ => X) 1 x) with pc := wN (to.tmod 2147483648) }) := Lib.hid (HQ8.out.kept (Wt.kept_drew y7) id)
  have HE := Lib.hid (fun z : World => eqlM { (setR (loaded 1 fun _ => X) 1 x) with pc := wN (to.tmod 2147483648) } z)
  have HLB := Lib.hid (loadMac HM9.out)
  have HLQ := Lib.hid (loadMac HQ9.out)
  generalize tab 8211 (mc { (setR (loaded 1 fun _ => X) 1 x) with pc := wN (to.tmod 2147483648) }) = cf at *
  generalize y7.drew = y9 at *
  refine og_tk (some 98) (.pointer (some ⟨b, 0, none⟩)) rfl rfl (by go_simp) (fun _ _ => by simp [execOp, go_sem]) ?_
  simp only [Act.put, List.setIfInBounds_toArray, List.set_cons_zero, List.set_cons_succ]
  refine og_tk (some 99) (.pointer (some ⟨b, 0, none⟩)) rfl rfl (by go_simp) (fun _ _ => by simp [execOp, go_sem]) ?_
  simp only [Act.put, List.setIfInBounds_toArray, List.set_cons_zero, List.set_cons_succ]
  refine og_ld (some 100) 87 (.tmp 99) (.pointer (some ⟨b, 0, none⟩)) (.agg cf) rfl rfl (by go_simp) rfl rfl (fun y hy => hy ▸ HLB.out) ?_
  simp only [Act.put, List.setIfInBounds_toArray, List.set_cons_zero, List.set_cons_succ]
  refine og_ld (some 101) 87 (.tmp 12) (.pointer (some ⟨q, 0, none⟩)) (.agg cf) rfl rfl (by go_simp) rfl rfl (fun y hy => hy ▸ HLQ.out) ?_
  simp only [Act.put, List.setIfInBounds_toArray, List.set_cons_zero, List.set_cons_succ]
  refine og_eqM (some 102) (.tmp 100) (.tmp 101) cf cf (.bool true) rfl rfl (by go_simp) rfl rfl rfl (fun z _ => HE.out z) ?_
  simp only [Act.put, List.setIfInBounds_toArray, List.set_cons_zero, List.set_cons_succ]
  refine og_tk (some 8) (.bool true) rfl rfl (by go_simp) (fun _ _ => by simp [execOp, go_sem]) ?_
  simp only [Act.put, List.setIfInBounds_toArray, List.set_cons_zero, List.set_cons_succ]
  refine og_done (NoPanic.normal ?_)
  go_wp2_with (fail)
  exact bodyPost_ret (v := .bool true) (by simp [results, Tryd.results10, go_sem]) rfl ⟨rfl, HB9.out⟩
set_option maxHeartbeats 4000000 in
set_option maxRecDepth 100000 in
theorem vj_31f (kind to : Int) (x reg : Nat) (hx : x < 18446744073709551616) (hr : reg < 18446744073709551616) (hop : wrap64 (29 + wrap64 ((IntKind.u64.wrap kind).tmod 5)) = 31) (hv : x ≠ 0) (hto : 8192 ≤ wN (to.tmod 2147483648)) (w : World) (hT : Laid.KTab w) :
    Calls Tryd.prog 10 #[.int .i64 kind, .int .u64 x, .int .i64 to, .int .u64 reg] w fun e w' => e = .returned (.bool true) ∧ Below w.heap.size w w' := by
  have HN := Lib.hid (tm31 to)
  have HX := Lib.hid (And.intro hx hr)
  have HOP := Lib.hid hop
  have HT := Lib.hid hT
  have t1 : decide (8192 ≤ IntKind.u64.wrap (to.tmod 2147483648)) = true := by rw [wN_eq]; simp; omega
  have HTO := Lib.hid hto
  clear hto
  have t2 : ((x : Int) == 0) = false := by simp; omega
  have HV := Lib.hid hv
  clear hv
  clear hx hr hop hT
  have HA : Hid (Below w.heap.size w (w.alloc (.cells #[.int .i64 31, .int .i64 4, .int .i64 1, .int .i64 0, .int .i64 0, .int .i64 (to.tmod 2147483648), .int .u64 0] 82)) ∧ (w.alloc (.cells #[.int .i64 31, .int .i64 4, .int .i64 1, .int .i64 0, .int .i64 0, .int .i64 (to.tmod 2147483648), .int .u64 0] 82)).heap.size = w.heap.size + 1) := Lib.hid ⟨(Below.refl _ _).alloc (Nat.le_refl _) _, by simp⟩
  have HC := Lib.hid (loadedOf_walk (w.alloc (.cells #[.int .i64 31, .int .i64 4, .int .i64 1, .int .i64 0, .int .i64 0, .int .i64 (to.tmod 2147483648), .int .u64 0] 82)) w.heap.size 0 1 1 (fun _ => insOf 31 4 1 0 0 (to.tmod 2147483648)) (isIns_new w (insOf 31 4 1 0 0 (to.tmod 2147483648)) _) (by rw [HA.out.2]; omega) (by decide) (by decide))
  have HWI := Lib.hid (word_of 31 4 1 0 0 (to.tmod 2147483648) (by decide) (by decide) (by decide) (by decide) (by decide) HN.out)
  generalize wordOf (insOf 31 4 1 0 0 (to.tmod 2147483648)) = X at *
  go_enter Tryd.func10, Tryd.ntmps10
  go_upto_region 2 with (fail)
  rw [HOP.out]
  go_upto_region 3 with (go_at_call 34; (with_reducible refine HC.out.mono ?_); rintro e y ⟨b, he, hm, hb, hk⟩; obtain rfl : e = _ := he; have HM := Lib.hid hm; have HB : Hid (Below w.heap.size w y ∧ w.heap.size ≤ b) := Lib.hid ⟨bl HA.out.1 hk, Nat.le_trans (by rw [HA.out.2]; omega) hb⟩; clear hm hb hk HC)
  have hT1 := ktab_below HT.out HB.out.1
  have HN1 := Lib.hid (Wt.New_walk y hT1 (lowB_le' hT1))
  clear hT1 HA
  go_upto_region 4 with (go_at_call 13; (with_reducible refine HN1.out.mono ?_); rintro e y2 ⟨s, T, kb, fb, he, hst, hb, hx⟩; obtain rfl : e = _ := he; have HM2 := Lib.hid (HM.out.below hb); have HB2 : Hid (Below w.heap.size w y2) := Lib.hid (bl HB.out.1 hb); clear hst hb hx HN1)
  have hT2 := ktab_below HT.out HB2.out
  have HF := Lib.hid (fixed10_walk y2 hT2 (lowB_le' hT2))
  clear hT2 HM
  go_upto_region 6 with (go_at_call 35; (with_reducible refine HF.out.mono ?_); rintro e y3 ⟨he, hb⟩; obtain rfl : e = _ := he; have HM3 := Lib.hid (HM2.out.below hb); have HB3 : Hid (Below w.heap.size w y3) := Lib.hid (bl HB2.out hb); clear hb HF HM2)
  have k1 : y3.cell? ⟨b, 8193, none⟩ = some (.int .u64 ((0 : Nat) : Int)) := HM3.out.reg (p := 1) (by decide)
  have f1 := HM3.out.fz 8193
  have HM4 : Hid (IsMac (y3.setCell ⟨b, 8193, none⟩ (.int .u64 (x : Int))) b (setR (loaded 1 fun _ => X) 1 x)) := Lib.hid (HM3.out.setReg (d := 1) (by decide) x)
  have HB4 : Hid (Below w.heap.size w (y3.setCell ⟨b, 8193, none⟩ (.int .u64 (x : Int)))) := Lib.hid (HB3.out.setCell HB.out.2 _)
  go_upto_region 7 with (fail)
  clear k1 f1 HM3
  generalize y3.setCell ⟨b, 8193, none⟩ (.int .u64 (x : Int)) = y4 at *
  go_upto_region 9 with (fail)
  have HLM := Lib.hid (loadMac HM4.out)
  have z9 := zeroMac y4
  have HPQ : Hid (IsMac (y4.alloc (.cells (tab 8211 (mc (setR (loaded 1 fun _ => X) 1 x))) 87)) y4.heap.size (setR (loaded 1 fun _ => X) 1 x) ∧ IsMac (y4.alloc (.cells (tab 8211 (mc (setR (loaded 1 fun _ => X) 1 x))) 87)) b (setR (loaded 1 fun _ => X) 1 x) ∧ Below w.heap.size w (y4.alloc (.cells (tab 8211 (mc (setR (loaded 1 fun _ => X) 1 x))) 87))) := Lib.hid ⟨IsTab.new y4 _ 8211 _, HM4.out.below ((Below.refl _ _).alloc (Nat.le_refl _) _), HB4.out.alloc HB4.out.size _⟩
  generalize hcm : tab 8211 (mc (setR (loaded 1 fun _ => X) 1 x)) = cm at *
  generalize hzm : tab 8211 (mc m0) = zm at *
  have HZ : Hid (zm.size = 8211) := Lib.hid (by rw [← hzm, tab_size])
  have HCM := Lib.hid hcm
  clear hcm hzm
  go_upto_region 10 with (first
    | ((with_reducible refine wpList_loadE (P := Tryd.prog) (w := y4) (ty := 87) (x := .tmp 49) (p := .pointer (some ⟨b, 0, none⟩)) (v := .agg cm) ?_ ?_ ?_ HLM.out ?_); (· exact rfl); (· exact rfl); (· exact rfl))
    | ((with_reducible refine wpList_store_row (P := Tryd.prog) (w := y4.alloc (.cells zm 87)) ?_ 87 (.tmp 12) (.tmp 50) ?_ y4.heap.size cm ?_ ?_ 87 zm (heap_alloc_last y4 _) ?_ ?_ ?_ ?_); (· exact rfl); (· exact rfl); (· exact rfl); (· exact rfl); (· rw [← HCM.out]; exact infM _); (· rw [← HCM.out, HZ.out, tab_size]); (· rw [← HCM.out]; exact one_mc _); rw [World.setRow_alloc_new]; simp only [Act.put]))
  have HQB : Hid (b < y4.heap.size ∧ w.heap.size ≤ y4.heap.size) := Lib.hid ⟨HM4.out.lt, HB4.out.size⟩
  clear z9 HLM HZ HCM HM4 HB4 HB3
  generalize y4.heap.size = q at *
  generalize y4.alloc (.cells cm 87) = y5 at *
  have HFIN : Hid (jumpM (setR (loaded 1 fun _ => X) 1 x) 31 4 1 (wN (to.tmod 2147483648)) = (stopM (setR (loaded 1 fun _ => X) 1 x) 18446744073709551614)) := Lib.hid (by
    unfold jumpM
    have := HTO.out; have h0 := HV.out; rw [(show (setR (loaded 1 fun _ => X) 1 x).reg 1 = x from rfl), if_neg (by omega), if_pos (by simp; omega)])
  have HS := Lib.hid (Step_walk y5 b s (fun w' => IsMac w' b (stopM (setR (loaded 1 fun _ => X) 1 x) 18446744073709551614) ∧ Kept (fun k => k = b) y5 w') (by
    have h := step_jump y5 b s (setR (loaded 1 fun _ => X) 1 x) X ⟨HPQ.out.2.1, ok_setR (ok_loaded 1 (fun _ => X) fun _ => HWI.out.lt) 1 x HX.out.1, rfl, (show 0 < 8192 by decide), rfl, HWI.out.ok⟩ (by rw [HWI.out.op]; decide)
    rw [HWI.out.op, HWI.out.d, HWI.out.a, HWI.out.n, HFIN.out] at h
    exact h))
  go_upto_region 12 with (go_at_call 36; (with_reducible refine HS.out.mono ?_); rintro e y6 ⟨he, hm, hk⟩; obtain rfl : e = _ := he; have HM6 := Lib.hid hm; have HQ6 := Lib.hid (HPQ.out.1.kept hk (by have := HQB.out.1; omega)); have HB6 : Hid (Below w.heap.size w y6) := Lib.hid (Wt.below_of HPQ.out.2.2 hk fun j _ hj => by rw [hj]; exact HB.out.2); clear hm hk HS)
  clear HPQ
  go_upto_region 19 with (fail)
  have k1 := HQ6.out.halted
  have f1 := HQ6.out.fz 8209
  have k2 := HQ6.out.exit
  have f2 := HQ6.out.fz 8210
  have HQ8 : Hid (IsMac ((y6.setCell ⟨q, 8209, none⟩ (.bool true)).setCell ⟨q, 8210, none⟩ (.int .u64 18446744073709551614)) q (stopM (setR (loaded 1 fun _ => X) 1 x) 18446744073709551614)) := Lib.hid ((HQ6.out.setHalted true).setExit 18446744073709551614)
  have HM8 := Lib.hid (HM6.out.kept (kept_set (S := fun k => k = q) (kept_set (S := fun k => k = q) (Kept.refl _ y6) q 8209 rfl (.bool true)) q 8210 rfl (.int .u64 18446744073709551614)) (by have := HQB.out.1; omega))
  have HB8 : Hid (Below w.heap.size w ((y6.setCell ⟨q, 8209, none⟩ (.bool true)).setCell ⟨q, 8210, none⟩ (.int .u64 18446744073709551614))) := Lib.hid ((HB6.out.setCell HQB.out.2 _).setCell HQB.out.2 _)
  go_upto_region 20 with (fail)
  clear k1 f1 k2 f2
  generalize (y6.setCell ⟨q, 8209, none⟩ (.bool true)).setCell ⟨q, 8210, none⟩ (.int .u64 18446744073709551614) = y8 at *
  refine wp_region_og (fun z : World => y8.drew = z) (.take 0 (.take 1 (.take 2 (.take 3 (.take 4 (.take 5 .done)))))) (by kernel_rfl) (by kernel_rfl) rfl ?_
  have HB9 := Lib.hid HB8.out.drew
  have HM9 : Hid (IsMac y8.drew b (stopM (setR (loaded 1 fun _ => X) 1 x) 18446744073709551614)) := Lib.hid (HM8.out.kept (Wt.kept_drew y8) id)
  have HQ9 : Hid (IsMac y8.drew q (stopM (setR (loaded 1 fun _ => X) 1 x) 18446744073709551614)) := Lib.hid (HQ8.out.kept (Wt.kept_drew y8) id)
  have HE := Lib.hid (fun z : World => eqlM (stopM (setR (loaded 1 fun _ => X) 1 x) 18446744073709551614) z)
  have HLB := Lib.hid (loadMac HM9.out)
  have HLQ := Lib.hid (loadMac HQ9.out)
  generalize tab 8211 (mc (stopM (setR (loaded 1 fun _ => X) 1 x) 18446744073709551614)) = cf at *
  generalize y8.drew = y9 at *
  refine og_tk (some 87) (.pointer (some ⟨b, 0, none⟩)) rfl rfl (by go_simp) (fun _ _ => by simp [execOp, go_sem]) ?_
  simp only [Act.put, List.setIfInBounds_toArray, List.set_cons_zero, List.set_cons_succ]
  refine og_tk (some 88) (.pointer (some ⟨b, 0, none⟩)) rfl rfl (by go_simp) (fun _ _ => by simp [execOp, go_sem]) ?_
  simp only [Act.put, List.setIfInBounds_toArray, List.set_cons_zero, List.set_cons_succ]
  refine og_ld (some 89) 87 (.tmp 88) (.pointer (some ⟨b, 0, none⟩)) (.agg cf) rfl rfl (by go_simp) rfl rfl (fun y hy => hy ▸ HLB.out) ?_
  simp only [Act.put, List.setIfInBounds_toArray, List.set_cons_zero, List.set_cons_succ]
  refine og_ld (some 90) 87 (.tmp 12) (.pointer (some ⟨q, 0, none⟩)) (.agg cf) rfl rfl (by go_simp) rfl rfl (fun y hy => hy ▸ HLQ.out) ?_
  simp only [Act.put, List.setIfInBounds_toArray, List.set_cons_zero, List.set_cons_succ]
  refine og_eqM (some 91) (.tmp 89) (.tmp 90) cf cf (.bool true) rfl rfl (by go_simp) rfl rfl rfl (fun z _ => HE.out z) ?_
  simp only [Act.put, List.setIfInBounds_toArray, List.set_cons_zero, List.set_cons_succ]
  refine og_tk (some 8) (.bool true) rfl rfl (by go_simp) (fun _ _ => by simp [execOp, go_sem]) ?_
  simp only [Act.put, List.setIfInBounds_toArray, List.set_cons_zero, List.set_cons_succ]
  refine og_done (NoPanic.normal ?_)
  go_wp2_with (fail)
  exact bodyPost_ret (v := .bool true) (by simp [results, Tryd.results10, go_sem]) rfl ⟨rfl, HB9.out⟩
set_option maxHeartbeats 4000000 in
set_option maxRecDepth 100000 in
theorem vj_32n (kind to : Int) (x reg : Nat) (hx : x < 18446744073709551616) (hr : reg < 18446744073709551616) (hop : wrap64 (29 + wrap64 ((IntKind.u64.wrap kind).tmod 5)) = 32) (hto : wN (to.tmod 2147483648) < 8192) (w : World) (hT : Laid.KTab w) :
    Calls Tryd.prog 10 #[.int .i64 kind, .int .u64 x, .int .i64 to, .int .u64 reg] w fun e w' => e = .returned (.bool true) ∧ Below w.heap.size w w' := by
  have HN := Lib.hid (tm31 to)
  have HX := Lib.hid (And.intro hx hr)
  have HOP := Lib.hid hop
  have HT := Lib.hid hT
  have t1 : decide (8192 ≤ IntKind.u64.wrap (to.tmod 2147483648)) = false := by rw [wN_eq]; simp; omega
  have HTO := Lib.hid hto
  clear hto
  clear hx hr hop hT
  have HA : Hid (Below w.heap.size w (w.alloc (.cells #[.int .i64 32, .int .i64 4, .int .i64 1, .int .i64 0, .int .i64 0, .int .i64 (to.tmod 2147483648), .int .u64 0] 82)) ∧ (w.alloc (.cells #[.int .i64 32, .int .i64 4, .int .i64 1, .int .i64 0, .int .i64 0, .int .i64 (to.tmod 2147483648), .int .u64 0] 82)).heap.size = w.heap.size + 1) := Lib.hid ⟨(Below.refl _ _).alloc (Nat.le_refl _) _, by simp⟩
  have HC := Lib.hid (loadedOf_walk (w.alloc (.cells #[.int .i64 32, .int .i64 4, .int .i64 1, .int .i64 0, .int .i64 0, .int .i64 (to.tmod 2147483648), .int .u64 0] 82)) w.heap.size 0 1 1 (fun _ => insOf 32 4 1 0 0 (to.tmod 2147483648)) (isIns_new w (insOf 32 4 1 0 0 (to.tmod 2147483648)) _) (by rw [HA.out.2]; omega) (by decide) (by decide))
  have HWI := Lib.hid (word_of 32 4 1 0 0 (to.tmod 2147483648) (by decide) (by decide) (by decide) (by decide) (by decide) HN.out)
  generalize wordOf (insOf 32 4 1 0 0 (to.tmod 2147483648)) = X at *
  go_enter Tryd.func10, Tryd.ntmps10
  go_upto_region 2 with (fail)
  rw [HOP.out]
  go_upto_region 3 with (go_at_call 34; (with_reducible refine HC.out.mono ?_); rintro e y ⟨b, he, hm, hb, hk⟩; obtain rfl : e = _ := he; have HM := Lib.hid hm; have HB : Hid (Below w.heap.size w y ∧ w.heap.size ≤ b) := Lib.hid ⟨bl HA.out.1 hk, Nat.le_trans (by rw [HA.out.2]; omega) hb⟩; clear hm hb hk HC)
  have hT1 := ktab_below HT.out HB.out.1
  have HN1 := Lib.hid (Wt.New_walk y hT1 (lowB_le' hT1))
  clear hT1 HA
  go_upto_region 4 with (go_at_call 13; (with_reducible refine HN1.out.mono ?_); rintro e y2 ⟨s, T, kb, fb, he, hst, hb, hx⟩; obtain rfl : e = _ := he; have HM2 := Lib.hid (HM.out.below hb); have HB2 : Hid (Below w.heap.size w y2) := Lib.hid (bl HB.out.1 hb); clear hst hb hx HN1)
  have hT2 := ktab_below HT.out HB2.out
  have HF := Lib.hid (fixed10_walk y2 hT2 (lowB_le' hT2))
  clear hT2 HM
  go_upto_region 6 with (go_at_call 35; (with_reducible refine HF.out.mono ?_); rintro e y3 ⟨he, hb⟩; obtain rfl : e = _ := he; have HM3 := Lib.hid (HM2.out.below hb); have HB3 : Hid (Below w.heap.size w y3) := Lib.hid (bl HB2.out hb); clear hb HF HM2)
  have k1 : y3.cell? ⟨b, 8193, none⟩ = some (.int .u64 ((0 : Nat) : Int)) := HM3.out.reg (p := 1) (by decide)
  have f1 := HM3.out.fz 8193
  have HM4 : Hid (IsMac (y3.setCell ⟨b, 8193, none⟩ (.int .u64 (x : Int))) b (setR (loaded 1 fun _ => X) 1 x)) := Lib.hid (HM3.out.setReg (d := 1) (by decide) x)
  have HB4 : Hid (Below w.heap.size w (y3.setCell ⟨b, 8193, none⟩ (.int .u64 (x : Int)))) := Lib.hid (HB3.out.setCell HB.out.2 _)
  go_upto_region 7 with (fail)
  clear k1 f1 HM3
  generalize y3.setCell ⟨b, 8193, none⟩ (.int .u64 (x : Int)) = y4 at *
  go_upto_region 9 with (fail)
  have HLM := Lib.hid (loadMac HM4.out)
  have z9 := zeroMac y4
  have HPQ : Hid (IsMac (y4.alloc (.cells (tab 8211 (mc (setR (loaded 1 fun _ => X) 1 x))) 87)) y4.heap.size (setR (loaded 1 fun _ => X) 1 x) ∧ IsMac (y4.alloc (.cells (tab 8211 (mc (setR (loaded 1 fun _ => X) 1 x))) 87)) b (setR (loaded 1 fun _ => X) 1 x) ∧ Below w.heap.size w (y4.alloc (.cells (tab 8211 (mc (setR (loaded 1 fun _ => X) 1 x))) 87))) := Lib.hid ⟨IsTab.new y4 _ 8211 _, HM4.out.below ((Below.refl _ _).alloc (Nat.le_refl _) _), HB4.out.alloc HB4.out.size _⟩
  generalize hcm : tab 8211 (mc (setR (loaded 1 fun _ => X) 1 x)) = cm at *
  generalize hzm : tab 8211 (mc m0) = zm at *
  have HZ : Hid (zm.size = 8211) := Lib.hid (by rw [← hzm, tab_size])
  have HCM := Lib.hid hcm
  clear hcm hzm
  go_upto_region 10 with (first
    | ((with_reducible refine wpList_loadE (P := Tryd.prog) (w := y4) (ty := 87) (x := .tmp 49) (p := .pointer (some ⟨b, 0, none⟩)) (v := .agg cm) ?_ ?_ ?_ HLM.out ?_); (· exact rfl); (· exact rfl); (· exact rfl))
    | ((with_reducible refine wpList_store_row (P := Tryd.prog) (w := y4.alloc (.cells zm 87)) ?_ 87 (.tmp 12) (.tmp 50) ?_ y4.heap.size cm ?_ ?_ 87 zm (heap_alloc_last y4 _) ?_ ?_ ?_ ?_); (· exact rfl); (· exact rfl); (· exact rfl); (· exact rfl); (· rw [← HCM.out]; exact infM _); (· rw [← HCM.out, HZ.out, tab_size]); (· rw [← HCM.out]; exact one_mc _); rw [World.setRow_alloc_new]; simp only [Act.put]))
  have HQB : Hid (b < y4.heap.size ∧ w.heap.size ≤ y4.heap.size) := Lib.hid ⟨HM4.out.lt, HB4.out.size⟩
  clear z9 HLM HZ HCM HM4 HB4 HB3
  generalize y4.heap.size = q at *
  generalize y4.alloc (.cells cm 87) = y5 at *
  have HFIN : Hid (jumpM (setR (loaded 1 fun _ => X) 1 x) 32 4 1 (wN (to.tmod 2147483648)) = (setR { (setR (loaded 1 fun _ => X) 1 x) with pc := wN (to.tmod 2147483648) } 4 1)) := Lib.hid (by
    unfold jumpM
    have := HTO.out; rw [if_neg (by omega), if_neg (by simp; omega)]; rfl)
  have HS := Lib.hid (Step_walk y5 b s (fun w' => IsMac w' b (setR { (setR (loaded 1 fun _ => X) 1 x) with pc := wN (to.tmod 2147483648) } 4 1) ∧ Kept (fun k => k = b) y5 w') (by
    have h := step_jump y5 b s (setR (loaded 1 fun _ => X) 1 x) X ⟨HPQ.out.2.1, ok_setR (ok_loaded 1 (fun _ => X) fun _ => HWI.out.lt) 1 x HX.out.1, rfl, (show 0 < 8192 by decide), rfl, HWI.out.ok⟩ (by rw [HWI.out.op]; decide)
    rw [HWI.out.op, HWI.out.d, HWI.out.a, HWI.out.n, HFIN.out] at h
    exact h))
  go_upto_region 12 with (go_at_call 36; (with_reducible refine HS.out.mono ?_); rintro e y6 ⟨he, hm, hk⟩; obtain rfl : e = _ := he; have HM6 := Lib.hid hm; have HQ6 := Lib.hid (HPQ.out.1.kept hk (by have := HQB.out.1; omega)); have HB6 : Hid (Below w.heap.size w y6) := Lib.hid (Wt.below_of HPQ.out.2.2 hk fun j _ hj => by rw [hj]; exact HB.out.2); clear hm hk HS)
  clear HPQ
  have k1 := HQ6.out.pc
  have f1 := HQ6.out.fz 8208
  have HQ7 : Hid (IsMac (y6.setCell ⟨q, 8208, none⟩ (.int .u64 (IntKind.u64.wrap (to.tmod 2147483648)))) q { (setR (loaded 1 fun _ => X) 1 x) with pc := wN (to.tmod 2147483648) }) := Lib.hid (by rw [wN_eq]; exact HQ6.out.setPc _)
  have HM7 := Lib.hid (HM6.out.kept (kept_set (S := fun k => k = q) (Kept.refl _ y6) q 8208 rfl (.int .u64 (IntKind.u64.wrap (to.tmod 2147483648)))) (by have := HQB.out.1; omega))
  have HB7 : Hid (Below w.heap.size w (y6.setCell ⟨q, 8208, none⟩ (.int .u64 (IntKind.u64.wrap (to.tmod 2147483648))))) := Lib.hid (HB6.out.setCell HQB.out.2 _)
  go_upto_region 22 with (fail)
  clear k1 f1
  generalize y6.setCell ⟨q, 8208, none⟩ (.int .u64 (IntKind.u64.wrap (to.tmod 2147483648))) = y7 at *
  have k2 : y7.cell? ⟨q, 8196, none⟩ = some (.int .u64 ((0 : Nat) : Int)) := HQ7.out.reg (p := 4) (by decide)
  have f2 := HQ7.out.fz 8196
  have HQ8 : Hid (IsMac (y7.setCell ⟨q, 8196, none⟩ (.int .u64 1)) q (setR { (setR (loaded 1 fun _ => X) 1 x) with pc := wN (to.tmod 2147483648) } 4 1)) := Lib.hid (HQ7.out.setReg (d := 4) (by decide) 1)
  have HM8 := Lib.hid (HM7.out.kept (kept_set (S := fun k => k = q) (Kept.refl _ y7) q 8196 rfl (.int .u64 1)) (by have := HQB.out.1; omega))
  have HB8 : Hid (Below w.heap.size w (y7.setCell ⟨q, 8196, none⟩ (.int .u64 1))) := Lib.hid (HB7.out.setCell HQB.out.2 _)
  go_upto_region 24 with (fail)
  clear k2 f2
  generalize y7.setCell ⟨q, 8196, none⟩ (.int .u64 1) = y8 at *
  refine wp_region_og (fun z : World => y8.drew = z) (.take 0 (.take 1 (.take 2 (.take 3 (.take 4 (.take 5 .done)))))) (by kernel_rfl) (by kernel_rfl) rfl ?_
  have HB9 := Lib.hid HB8.out.drew
  have HM9 : Hid (IsMac y8.drew b (setR { (setR (loaded 1 fun _ => X) 1 x) with pc := wN (to.tmod 2147483648) } 4 1)) := Lib.hid (HM8.out.kept (Wt.kept_drew y8) id)
  have HQ9 : Hid (IsMac y8.drew q (setR { (setR (loaded 1 fun _ => X) 1 x) with pc := wN (to.tmod 2147483648) } 4 1)) := Lib.hid (HQ8.out.kept (Wt.kept_drew y8) id)
  have HE := Lib.hid (fun z : World => eqlM (setR { (setR (loaded 1 fun _ => X) 1 x) with pc := wN (to.tmod 2147483648) } 4 1) z)
  have HLB := Lib.hid (loadMac HM9.out)
  have HLQ := Lib.hid (loadMac HQ9.out)
  generalize tab 8211 (mc (setR { (setR (loaded 1 fun _ => X) 1 x) with pc := wN (to.tmod 2147483648) } 4 1)) = cf at *
  generalize y8.drew = y9 at *
  refine og_tk (some 98) (.pointer (some ⟨b, 0, none⟩)) rfl rfl (by go_simp) (fun _ _ => by simp [execOp, go_sem]) ?_
  simp only [Act.put, List.setIfInBounds_toArray, List.set_cons_zero, List.set_cons_succ]
  refine og_tk (some 99) (.pointer (some ⟨b, 0, none⟩)) rfl rfl (by go_simp) (fun _ _ => by simp [execOp, go_sem]) ?_
  simp only [Act.put, List.setIfInBounds_toArray, List.set_cons_zero, List.set_cons_succ]
  refine og_ld (some 100) 87 (.tmp 99) (.pointer (some ⟨b, 0, none⟩)) (.agg cf) rfl rfl (by go_simp) rfl rfl (fun y hy => hy ▸ HLB.out) ?_
  simp only [Act.put, List.setIfInBounds_toArray, List.set_cons_zero, List.set_cons_succ]
  refine og_ld (some 101) 87 (.tmp 12) (.pointer (some ⟨q, 0, none⟩)) (.agg cf) rfl rfl (by go_simp) rfl rfl (fun y hy => hy ▸ HLQ.out) ?_
  simp only [Act.put, List.setIfInBounds_toArray, List.set_cons_zero, List.set_cons_succ]
  refine og_eqM (some 102) (.tmp 100) (.tmp 101) cf cf (.bool true) rfl rfl (by go_simp) rfl rfl rfl (fun z _ => HE.out z) ?_
  simp only [Act.put, List.setIfInBounds_toArray, List.set_cons_zero, List.set_cons_succ]
  refine og_tk (some 8) (.bool true) rfl rfl (by go_simp) (fun _ _ => by simp [execOp, go_sem]) ?_
  simp only [Act.put, List.setIfInBounds_toArray, List.set_cons_zero, List.set_cons_succ]
  refine og_done (NoPanic.normal ?_)
  go_wp2_with (fail)
  exact bodyPost_ret (v := .bool true) (by simp [results, Tryd.results10, go_sem]) rfl ⟨rfl, HB9.out⟩
set_option maxHeartbeats 4000000 in
set_option maxRecDepth 100000 in
theorem vj_32f (kind to : Int) (x reg : Nat) (hx : x < 18446744073709551616) (hr : reg < 18446744073709551616) (hop : wrap64 (29 + wrap64 ((IntKind.u64.wrap kind).tmod 5)) = 32) (hto : 8192 ≤ wN (to.tmod 2147483648)) (w : World) (hT : Laid.KTab w) :
    Calls Tryd.prog 10 #[.int .i64 kind, .int .u64 x, .int .i64 to, .int .u64 reg] w fun e w' => e = .returned (.bool true) ∧ Below w.heap.size w w' := by
  have HN := Lib.hid (tm31 to)
  have HX := Lib.hid (And.intro hx hr)
  have HOP := Lib.hid hop
  have HT := Lib.hid hT
  have t1 : decide (8192 ≤ IntKind.u64.wrap (to.tmod 2147483648)) = true := by rw [wN_eq]; simp; omega
  have HTO := Lib.hid hto
  clear hto
  clear hx hr hop hT
  have HA : Hid (Below w.heap.size w (w.alloc (.cells #[.int .i64 32, .int .i64 4, .int .i64 1, .int .i64 0, .int .i64 0, .int .i64 (to.tmod 2147483648), .int .u64 0] 82)) ∧ (w.alloc (.cells #[.int .i64 32, .int .i64 4, .int .i64 1, .int .i64 0, .int .i64 0, .int .i64 (to.tmod 2147483648), .int .u64 0] 82)).heap.size = w.heap.size + 1) := Lib.hid ⟨(Below.refl _ _).alloc (Nat.le_refl _) _, by simp⟩
  have HC := Lib.hid (loadedOf_walk (w.alloc (.cells #[.int .i64 32, .int .i64 4, .int .i64 1, .int .i64 0, .int .i64 0, .int .i64 (to.tmod 2147483648), .int .u64 0] 82)) w.heap.size 0 1 1 (fun _ => insOf 32 4 1 0 0 (to.tmod 2147483648)) (isIns_new w (insOf 32 4 1 0 0 (to.tmod 2147483648)) _) (by rw [HA.out.2]; omega) (by decide) (by decide))
  have HWI := Lib.hid (word_of 32 4 1 0 0 (to.tmod 2147483648) (by decide) (by decide) (by decide) (by decide) (by decide) HN.out)
  generalize wordOf (insOf 32 4 1 0 0 (to.tmod 2147483648)) = X at *
  go_enter Tryd.func10, Tryd.ntmps10
  go_upto_region 2 with (fail)
  rw [HOP.out]
  go_upto_region 3 with (go_at_call 34; (with_reducible refine HC.out.mono ?_); rintro e y ⟨b, he, hm, hb, hk⟩; obtain rfl : e = _ := he; have HM := Lib.hid hm; have HB : Hid (Below w.heap.size w y ∧ w.heap.size ≤ b) := Lib.hid ⟨bl HA.out.1 hk, Nat.le_trans (by rw [HA.out.2]; omega) hb⟩; clear hm hb hk HC)
  have hT1 := ktab_below HT.out HB.out.1
  have HN1 := Lib.hid (Wt.New_walk y hT1 (lowB_le' hT1))
  clear hT1 HA
  go_upto_region 4 with (go_at_call 13; (with_reducible refine HN1.out.mono ?_); rintro e y2 ⟨s, T, kb, fb, he, hst, hb, hx⟩; obtain rfl : e = _ := he; have HM2 := Lib.hid (HM.out.below hb); have HB2 : Hid (Below w.heap.size w y2) := Lib.hid (bl HB.out.1 hb); clear hst hb hx HN1)
  have hT2 := ktab_below HT.out HB2.out
  have HF := Lib.hid (fixed10_walk y2 hT2 (lowB_le' hT2))
  clear hT2 HM
  go_upto_region 6 with (go_at_call 35; (with_reducible refine HF.out.mono ?_); rintro e y3 ⟨he, hb⟩; obtain rfl : e = _ := he; have HM3 := Lib.hid (HM2.out.below hb); have HB3 : Hid (Below w.heap.size w y3) := Lib.hid (bl HB2.out hb); clear hb HF HM2)
  have k1 : y3.cell? ⟨b, 8193, none⟩ = some (.int .u64 ((0 : Nat) : Int)) := HM3.out.reg (p := 1) (by decide)
  have f1 := HM3.out.fz 8193
  have HM4 : Hid (IsMac (y3.setCell ⟨b, 8193, none⟩ (.int .u64 (x : Int))) b (setR (loaded 1 fun _ => X) 1 x)) := Lib.hid (HM3.out.setReg (d := 1) (by decide) x)
  have HB4 : Hid (Below w.heap.size w (y3.setCell ⟨b, 8193, none⟩ (.int .u64 (x : Int)))) := Lib.hid (HB3.out.setCell HB.out.2 _)
  go_upto_region 7 with (fail)
  clear k1 f1 HM3
  generalize y3.setCell ⟨b, 8193, none⟩ (.int .u64 (x : Int)) = y4 at *
  go_upto_region 9 with (fail)
  have HLM := Lib.hid (loadMac HM4.out)
  have z9 := zeroMac y4
  have HPQ : Hid (IsMac (y4.alloc (.cells (tab 8211 (mc (setR (loaded 1 fun _ => X) 1 x))) 87)) y4.heap.size (setR (loaded 1 fun _ => X) 1 x) ∧ IsMac (y4.alloc (.cells (tab 8211 (mc (setR (loaded 1 fun _ => X) 1 x))) 87)) b (setR (loaded 1 fun _ => X) 1 x) ∧ Below w.heap.size w (y4.alloc (.cells (tab 8211 (mc (setR (loaded 1 fun _ => X) 1 x))) 87))) := Lib.hid ⟨IsTab.new y4 _ 8211 _, HM4.out.below ((Below.refl _ _).alloc (Nat.le_refl _) _), HB4.out.alloc HB4.out.size _⟩
  generalize hcm : tab 8211 (mc (setR (loaded 1 fun _ => X) 1 x)) = cm at *
  generalize hzm : tab 8211 (mc m0) = zm at *
  have HZ : Hid (zm.size = 8211) := Lib.hid (by rw [← hzm, tab_size])
  have HCM := Lib.hid hcm
  clear hcm hzm
  go_upto_region 10 with (first
    | ((with_reducible refine wpList_loadE (P := Tryd.prog) (w := y4) (ty := 87) (x := .tmp 49) (p := .pointer (some ⟨b, 0, none⟩)) (v := .agg cm) ?_ ?_ ?_ HLM.out ?_); (· exact rfl); (· exact rfl); (· exact rfl))
    | ((with_reducible refine wpList_store_row (P := Tryd.prog) (w := y4.alloc (.cells zm 87)) ?_ 87 (.tmp 12) (.tmp 50) ?_ y4.heap.size cm ?_ ?_ 87 zm (heap_alloc_last y4 _) ?_ ?_ ?_ ?_); (· exact rfl); (· exact rfl); (· exact rfl); (· exact rfl); (· rw [← HCM.out]; exact infM _); (· rw [← HCM.out, HZ.out, tab_size]); (· rw [← HCM.out]; exact one_mc _); rw [World.setRow_alloc_new]; simp only [Act.put]))
  have HQB : Hid (b < y4.heap.size ∧ w.heap.size ≤ y4.heap.size) := Lib.hid ⟨HM4.out.lt, HB4.out.size⟩
  clear z9 HLM HZ HCM HM4 HB4 HB3
  generalize y4.heap.size = q at *
  generalize y4.alloc (.cells cm 87) = y5 at *
  have HFIN : Hid (jumpM (setR (loaded 1 fun _ => X) 1 x) 32 4 1 (wN (to.tmod 2147483648)) = (stopM (setR (loaded 1 fun _ => X) 1 x) 18446744073709551614)) := Lib.hid (by
    unfold jumpM
    have := HTO.out; rw [if_neg (by omega), if_pos (by simp; omega)])
  have HS := Lib.hid (Step_walk y5 b s (fun w' => IsMac w' b (stopM (setR (loaded 1 fun _ => X) 1 x) 18446744073709551614) ∧ Kept (fun k => k = b) y5 w') (by
    have h := step_jump y5 b s (setR (loaded 1 fun _ => X) 1 x) X ⟨HPQ.out.2.1, ok_setR (ok_loaded 1 (fun _ => X) fun _ => HWI.out.lt) 1 x HX.out.1, rfl, (show 0 < 8192 by decide), rfl, HWI.out.ok⟩ (by rw [HWI.out.op]; decide)
    rw [HWI.out.op, HWI.out.d, HWI.out.a, HWI.out.n, HFIN.out] at h
    exact h))
  go_upto_region 12 with (go_at_call 36; (with_reducible refine HS.out.mono ?_); rintro e y6 ⟨he, hm, hk⟩; obtain rfl : e = _ := he; have HM6 := Lib.hid hm; have HQ6 := Lib.hid (HPQ.out.1.kept hk (by have := HQB.out.1; omega)); have HB6 : Hid (Below w.heap.size w y6) := Lib.hid (Wt.below_of HPQ.out.2.2 hk fun j _ hj => by rw [hj]; exact HB.out.2); clear hm hk HS)
  clear HPQ
  go_upto_region 19 with (fail)
  have k1 := HQ6.out.halted
  have f1 := HQ6.out.fz 8209
  have k2 := HQ6.out.exit
  have f2 := HQ6.out.fz 8210
  have HQ8 : Hid (IsMac ((y6.setCell ⟨q, 8209, none⟩ (.bool true)).setCell ⟨q, 8210, none⟩ (.int .u64 18446744073709551614)) q (stopM (setR (loaded 1 fun _ => X) 1 x) 18446744073709551614)) := Lib.hid ((HQ6.out.setHalted true).setExit 18446744073709551614)
  have HM8 := Lib.hid (HM6.out.kept (kept_set (S := fun k => k = q) (kept_set (S := fun k => k = q) (Kept.refl _ y6) q 8209 rfl (.bool true)) q 8210 rfl (.int .u64 18446744073709551614)) (by have := HQB.out.1; omega))
  have HB8 : Hid (Below w.heap.size w ((y6.setCell ⟨q, 8209, none⟩ (.bool true)).setCell ⟨q, 8210, none⟩ (.int .u64 18446744073709551614))) := Lib.hid ((HB6.out.setCell HQB.out.2 _).setCell HQB.out.2 _)
  go_upto_region 20 with (fail)
  clear k1 f1 k2 f2
  generalize (y6.setCell ⟨q, 8209, none⟩ (.bool true)).setCell ⟨q, 8210, none⟩ (.int .u64 18446744073709551614) = y8 at *
  refine wp_region_og (fun z : World => y8.drew = z) (.take 0 (.take 1 (.take 2 (.take 3 (.take 4 (.take 5 .done)))))) (by kernel_rfl) (by kernel_rfl) rfl ?_
  have HB9 := Lib.hid HB8.out.drew
  have HM9 : Hid (IsMac y8.drew b (stopM (setR (loaded 1 fun _ => X) 1 x) 18446744073709551614)) := Lib.hid (HM8.out.kept (Wt.kept_drew y8) id)
  have HQ9 : Hid (IsMac y8.drew q (stopM (setR (loaded 1 fun _ => X) 1 x) 18446744073709551614)) := Lib.hid (HQ8.out.kept (Wt.kept_drew y8) id)
  have HE := Lib.hid (fun z : World => eqlM (stopM (setR (loaded 1 fun _ => X) 1 x) 18446744073709551614) z)
  have HLB := Lib.hid (loadMac HM9.out)
  have HLQ := Lib.hid (loadMac HQ9.out)
  generalize tab 8211 (mc (stopM (setR (loaded 1 fun _ => X) 1 x) 18446744073709551614)) = cf at *
  generalize y8.drew = y9 at *
  refine og_tk (some 87) (.pointer (some ⟨b, 0, none⟩)) rfl rfl (by go_simp) (fun _ _ => by simp [execOp, go_sem]) ?_
  simp only [Act.put, List.setIfInBounds_toArray, List.set_cons_zero, List.set_cons_succ]
  refine og_tk (some 88) (.pointer (some ⟨b, 0, none⟩)) rfl rfl (by go_simp) (fun _ _ => by simp [execOp, go_sem]) ?_
  simp only [Act.put, List.setIfInBounds_toArray, List.set_cons_zero, List.set_cons_succ]
  refine og_ld (some 89) 87 (.tmp 88) (.pointer (some ⟨b, 0, none⟩)) (.agg cf) rfl rfl (by go_simp) rfl rfl (fun y hy => hy ▸ HLB.out) ?_
  simp only [Act.put, List.setIfInBounds_toArray, List.set_cons_zero, List.set_cons_succ]
  refine og_ld (some 90) 87 (.tmp 12) (.pointer (some ⟨q, 0, none⟩)) (.agg cf) rfl rfl (by go_simp) rfl rfl (fun y hy => hy ▸ HLQ.out) ?_
  simp only [Act.put, List.setIfInBounds_toArray, List.set_cons_zero, List.set_cons_succ]
  refine og_eqM (some 91) (.tmp 89) (.tmp 90) cf cf (.bool true) rfl rfl (by go_simp) rfl rfl rfl (fun z _ => HE.out z) ?_
  simp only [Act.put, List.setIfInBounds_toArray, List.set_cons_zero, List.set_cons_succ]
  refine og_tk (some 8) (.bool true) rfl rfl (by go_simp) (fun _ _ => by simp [execOp, go_sem]) ?_
  simp only [Act.put, List.setIfInBounds_toArray, List.set_cons_zero, List.set_cons_succ]
  refine og_done (NoPanic.normal ?_)
  go_wp2_with (fail)
  exact bodyPost_ret (v := .bool true) (by simp [results, Tryd.results10, go_sem]) rfl ⟨rfl, HB9.out⟩
set_option maxHeartbeats 4000000 in
set_option maxRecDepth 100000 in
theorem vj_33n (kind to : Int) (x reg : Nat) (hx : x < 18446744073709551616) (hr : reg < 18446744073709551616) (hop : wrap64 (29 + wrap64 ((IntKind.u64.wrap kind).tmod 5)) = 33) (hto : reg < 8192) (w : World) (hT : Laid.KTab w) :
    Calls Tryd.prog 10 #[.int .i64 kind, .int .u64 x, .int .i64 to, .int .u64 reg] w fun e w' => e = .returned (.bool true) ∧ Below w.heap.size w w' := by
  have HN := Lib.hid (tm31 to)
  have HX := Lib.hid (And.intro hx hr)
  have HOP := Lib.hid hop
  have HT := Lib.hid hT
  have t1 : decide (8192 ≤ (reg : Int)) = false := by simp; omega
  have HTO := Lib.hid hto
  clear hto
  clear hx hr hop hT
  have HA : Hid (Below w.heap.size w (w.alloc (.cells #[.int .i64 33, .int .i64 4, .int .i64 1, .int .i64 0, .int .i64 0, .int .i64 (to.tmod 2147483648), .int .u64 0] 82)) ∧ (w.alloc (.cells #[.int .i64 33, .int .i64 4, .int .i64 1, .int .i64 0, .int .i64 0, .int .i64 (to.tmod 2147483648), .int .u64 0] 82)).heap.size = w.heap.size + 1) := Lib.hid ⟨(Below.refl _ _).alloc (Nat.le_refl _) _, by simp⟩
  have HC := Lib.hid (loadedOf_walk (w.alloc (.cells #[.int .i64 33, .int .i64 4, .int .i64 1, .int .i64 0, .int .i64 0, .int .i64 (to.tmod 2147483648), .int .u64 0] 82)) w.heap.size 0 1 1 (fun _ => insOf 33 4 1 0 0 (to.tmod 2147483648)) (isIns_new w (insOf 33 4 1 0 0 (to.tmod 2147483648)) _) (by rw [HA.out.2]; omega) (by decide) (by decide))
  have HWI := Lib.hid (word_of 33 4 1 0 0 (to.tmod 2147483648) (by decide) (by decide) (by decide) (by decide) (by decide) HN.out)
  generalize wordOf (insOf 33 4 1 0 0 (to.tmod 2147483648)) = X at *
  go_enter Tryd.func10, Tryd.ntmps10
  go_upto_region 2 with (fail)
  rw [HOP.out]
  go_upto_region 3 with (go_at_call 34; (with_reducible refine HC.out.mono ?_); rintro e y ⟨b, he, hm, hb, hk⟩; obtain rfl : e = _ := he; have HM := Lib.hid hm; have HB : Hid (Below w.heap.size w y ∧ w.heap.size ≤ b) := Lib.hid ⟨bl HA.out.1 hk, Nat.le_trans (by rw [HA.out.2]; omega) hb⟩; clear hm hb hk HC)
  have hT1 := ktab_below HT.out HB.out.1
  have HN1 := Lib.hid (Wt.New_walk y hT1 (lowB_le' hT1))
  clear hT1 HA
  go_upto_region 4 with (go_at_call 13; (with_reducible refine HN1.out.mono ?_); rintro e y2 ⟨s, T, kb, fb, he, hst, hb, hx⟩; obtain rfl : e = _ := he; have HM2 := Lib.hid (HM.out.below hb); have HB2 : Hid (Below w.heap.size w y2) := Lib.hid (bl HB.out.1 hb); clear hst hb hx HN1)
  have hT2 := ktab_below HT.out HB2.out
  have HF := Lib.hid (fixed10_walk y2 hT2 (lowB_le' hT2))
  clear hT2 HM
  go_upto_region 6 with (go_at_call 35; (with_reducible refine HF.out.mono ?_); rintro e y3 ⟨he, hb⟩; obtain rfl : e = _ := he; have HM3 := Lib.hid (HM2.out.below hb); have HB3 : Hid (Below w.heap.size w y3) := Lib.hid (bl HB2.out hb); clear hb HF HM2)
  have k1 : y3.cell? ⟨b, 8193, none⟩ = some (.int .u64 ((0 : Nat) : Int)) := HM3.out.reg (p := 1) (by decide)
  have f1 := HM3.out.fz 8193
  have HM4 : Hid (IsMac (y3.setCell ⟨b, 8193, none⟩ (.int .u64 (x : Int))) b (setR (loaded 1 fun _ => X) 1 x)) := Lib.hid (HM3.out.setReg (d := 1) (by decide) x)
  have HB4 : Hid (Below w.heap.size w (y3.setCell ⟨b, 8193, none⟩ (.int .u64 (x : Int)))) := Lib.hid (HB3.out.setCell HB.out.2 _)
  go_upto_region 7 with (fail)
  clear k1 f1 HM3
  generalize y3.setCell ⟨b, 8193, none⟩ (.int .u64 (x : Int)) = y4 at *
  have k1 : y4.cell? ⟨b, 8193, none⟩ = some (.int .u64 (x : Int)) := HM4.out.reg (p := 1) (by decide)
  have f1 := HM4.out.fz 8193
  have HM4 : Hid (IsMac (y4.setCell ⟨b, 8193, none⟩ (.int .u64 (reg : Int))) b (setR (setR (loaded 1 fun _ => X) 1 x) 1 reg)) := Lib.hid (HM4.out.setReg (d := 1) (by decide) reg)
  have HB4 : Hid (Below w.heap.size w (y4.setCell ⟨b, 8193, none⟩ (.int .u64 (reg : Int)))) := Lib.hid (HB4.out.setCell HB.out.2 _)
  go_upto_region 9 with (fail)
  clear k1 f1
  generalize y4.setCell ⟨b, 8193, none⟩ (.int .u64 (reg : Int)) = y4 at *
  have HLM := Lib.hid (loadMac HM4.out)
  have z9 := zeroMac y4
  have HPQ : Hid (IsMac (y4.alloc (.cells (tab 8211 (mc (setR (setR (loaded 1 fun _ => X) 1 x) 1 reg))) 87)) y4.heap.size (setR (setR (loaded 1 fun _ => X) 1 x) 1 reg) ∧ IsMac (y4.alloc (.cells (tab 8211 (mc (setR (setR (loaded 1 fun _ => X) 1 x) 1 reg))) 87)) b (setR (setR (loaded 1 fun _ => X) 1 x) 1 reg) ∧ Below w.heap.size w (y4.alloc (.cells (tab 8211 (mc (setR (setR (loaded 1 fun _ => X) 1 x) 1 reg))) 87))) := Lib.hid ⟨IsTab.new y4 _ 8211 _, HM4.out.below ((Below.refl _ _).alloc (Nat.le_refl _) _), HB4.out.alloc HB4.out.size _⟩
  generalize hcm : tab 8211 (mc (setR (setR (loaded 1 fun _ => X) 1 x) 1 reg)) = cm at *
  generalize hzm : tab 8211 (mc m0) = zm at *
  have HZ : Hid (zm.size = 8211) := Lib.hid (by rw [← hzm, tab_size])
  have HCM := Lib.hid hcm
  clear hcm hzm
  go_upto_region 10 with (first
    | ((with_reducible refine wpList_loadE (P := Tryd.prog) (w := y4) (ty := 87) (x := .tmp 49) (p := .pointer (some ⟨b, 0, none⟩)) (v := .agg cm) ?_ ?_ ?_ HLM.out ?_); (· exact rfl); (· exact rfl); (· exact rfl))
    | ((with_reducible refine wpList_store_row (P := Tryd.prog) (w := y4.alloc (.cells zm 87)) ?_ 87 (.tmp 12) (.tmp 50) ?_ y4.heap.size cm ?_ ?_ 87 zm (heap_alloc_last y4 _) ?_ ?_ ?_ ?_); (· exact rfl); (· exact rfl); (· exact rfl); (· exact rfl); (· rw [← HCM.out]; exact infM _); (· rw [← HCM.out, HZ.out, tab_size]); (· rw [← HCM.out]; exact one_mc _); rw [World.setRow_alloc_new]; simp only [Act.put]))
  have HQB : Hid (b < y4.heap.size ∧ w.heap.size ≤ y4.heap.size) := Lib.hid ⟨HM4.out.lt, HB4.out.size⟩
  clear z9 HLM HZ HCM HM4 HB4 HB3
  generalize y4.heap.size = q at *
  generalize y4.alloc (.cells cm 87) = y5 at *
  have HFIN : Hid (jumpM (setR (setR (loaded 1 fun _ => X) 1 x) 1 reg) 33 4 1 (wN (to.tmod 2147483648)) = { (setR (setR (loaded 1 fun _ => X) 1 x) 1 reg) with pc := reg }) := Lib.hid (by
    unfold jumpM
    have := HTO.out; rw [(show (setR (setR (loaded 1 fun _ => X) 1 x) 1 reg).reg 1 = reg from rfl), if_neg (by omega), if_neg (by simp; omega)]; rfl)
  have HS := Lib.hid (Step_walk y5 b s (fun w' => IsMac w' b { (setR (setR (loaded 1 fun _ => X) 1 x) 1 reg) with pc := reg } ∧ Kept (fun k => k = b) y5 w') (by
    have h := step_jump y5 b s (setR (setR (loaded 1 fun _ => X) 1 x) 1 reg) X ⟨HPQ.out.2.1, ok_setR (ok_setR (ok_loaded 1 (fun _ => X) fun _ => HWI.out.lt) 1 x HX.out.1) 1 reg HX.out.2, rfl, (show 0 < 8192 by decide), rfl, HWI.out.ok⟩ (by rw [HWI.out.op]; decide)
    rw [HWI.out.op, HWI.out.d, HWI.out.a, HWI.out.n, HFIN.out] at h
    exact h))
  go_upto_region 12 with (go_at_call 36; (with_reducible refine HS.out.mono ?_); rintro e y6 ⟨he, hm, hk⟩; obtain rfl : e = _ := he; have HM6 := Lib.hid hm; have HQ6 := Lib.hid (HPQ.out.1.kept hk (by have := HQB.out.1; omega)); have HB6 : Hid (Below w.heap.size w y6) := Lib.hid (Wt.below_of HPQ.out.2.2 hk fun j _ hj => by rw [hj]; exact HB.out.2); clear hm hk HS)
  clear HPQ
  have k1 := HQ6.out.pc
  have f1 := HQ6.out.fz 8208
  have HQ7 : Hid (IsMac (y6.setCell ⟨q, 8208, none⟩ (.int .u64 (reg : Int))) q { (setR (setR (loaded 1 fun _ => X) 1 x) 1 reg) with pc := reg }) := Lib.hid (HQ6.out.setPc reg)
  have HM7 := Lib.hid (HM6.out.kept (kept_set (S := fun k => k = q) (Kept.refl _ y6) q 8208 rfl (.int .u64 (reg : Int))) (by have := HQB.out.1; omega))
  have HB7 : Hid (Below w.heap.size w (y6.setCell ⟨q, 8208, none⟩ (.int .u64 (reg : Int)))) := Lib.hid (HB6.out.setCell HQB.out.2 _)
  go_upto_region 22 with (fail)
  clear k1 f1
  generalize y6.setCell ⟨q, 8208, none⟩ (.int .u64 (reg : Int)) = y7 at *
  have HM8 := HM7
  have HQ8 := HQ7
  have HB8 := HB7
  go_upto_region 24 with (fail)
  refine wp_region_og (fun z : World => y7.drew = z) (.take 0 (.take 1 (.take 2 (.take 3 (.take 4 (.take 5 .done)))))) (by kernel_rfl) (by kernel_rfl) rfl ?_
  have HB9 := Lib.hid HB8.out.drew
  have HM9 : Hid (IsMac y7.drew b { (setR (setR (loaded 1 fun _ => X) 1 x) 1 reg) with pc := reg }) := Lib.hid (HM8.out.kept (Wt.kept_drew y7) id)
  have HQ9 : Hid (IsMac y7.drew q { (setR (setR (loaded 1 fun _ => X) 1 x) 1 reg) with pc := reg }) := Lib.hid (HQ8.out.kept (Wt.kept_drew y7) id)
  have HE := Lib.hid (fun z : World => eqlM { (setR (setR (loaded 1 fun _ => X) 1 x) 1 reg) with pc := reg } z)
  have HLB := Lib.hid (loadMac HM9.out)
  have HLQ := Lib.hid (loadMac HQ9.out)
  generalize tab 8211 (mc { (setR (setR (loaded 1 fun _ => X) 1 x) 1 reg) with pc := reg }) = cf at *
  generalize y7.drew = y9 at *
  refine og_tk (some 98) (.pointer (some ⟨b, 0, none⟩)) rfl rfl (by go_simp) (fun _ _ => by simp [execOp, go_sem]) ?_
  simp only [Act.put, List.setIfInBounds_toArray, List.set_cons_zero, List.set_cons_succ]
  refine og_tk (some 99) (.pointer (some ⟨b, 0, none⟩)) rfl rfl (by go_simp) (fun _ _ => by simp [execOp, go_sem]) ?_
  simp only [Act.put, List.setIfInBounds_toArray, List.set_cons_zero, List.set_cons_succ]
  refine og_ld (some 100) 87 (.tmp 99) (.pointer (some ⟨b, 0, none⟩)) (.agg cf) rfl rfl (by go_simp) rfl rfl (fun y hy => hy ▸ HLB.out) ?_
  simp only [Act.put, List.setIfInBounds_toArray, List.set_cons_zero, List.set_cons_succ]
  refine og_ld (some 101) 87 (.tmp 12) (.pointer (some ⟨q, 0, none⟩)) (.agg cf) rfl rfl (by go_simp) rfl rfl (fun y hy => hy ▸ HLQ.out) ?_
  simp only [Act.put, List.setIfInBounds_toArray, List.set_cons_zero, List.set_cons_succ]
  refine og_eqM (some 102) (.tmp 100) (.tmp 101) cf cf (.bool true) rfl rfl (by go_simp) rfl rfl rfl (fun z _ => HE.out z) ?_
  simp only [Act.put, List.setIfInBounds_toArray, List.set_cons_zero, List.set_cons_succ]
  refine og_tk (some 8) (.bool true) rfl rfl (by go_simp) (fun _ _ => by simp [execOp, go_sem]) ?_
  simp only [Act.put, List.setIfInBounds_toArray, List.set_cons_zero, List.set_cons_succ]
  refine og_done (NoPanic.normal ?_)
  go_wp2_with (fail)
  exact bodyPost_ret (v := .bool true) (by simp [results, Tryd.results10, go_sem]) rfl ⟨rfl, HB9.out⟩
set_option maxHeartbeats 4000000 in
set_option maxRecDepth 100000 in
theorem vj_33f (kind to : Int) (x reg : Nat) (hx : x < 18446744073709551616) (hr : reg < 18446744073709551616) (hop : wrap64 (29 + wrap64 ((IntKind.u64.wrap kind).tmod 5)) = 33) (hto : 8192 ≤ reg) (w : World) (hT : Laid.KTab w) :
    Calls Tryd.prog 10 #[.int .i64 kind, .int .u64 x, .int .i64 to, .int .u64 reg] w fun e w' => e = .returned (.bool true) ∧ Below w.heap.size w w' := by
  have HN := Lib.hid (tm31 to)
  have HX := Lib.hid (And.intro hx hr)
  have HOP := Lib.hid hop
  have HT := Lib.hid hT
  have t1 : decide (8192 ≤ (reg : Int)) = true := by simp; omega
  have HTO := Lib.hid hto
  clear hto
  clear hx hr hop hT
  have HA : Hid (Below w.heap.size w (w.alloc (.cells #[.int .i64 33, .int .i64 4, .int .i64 1, .int .i64 0, .int .i64 0, .int .i64 (to.tmod 2147483648), .int .u64 0] 82)) ∧ (w.alloc (.cells #[.int .i64 33, .int .i64 4, .int .i64 1, .int .i64 0, .int .i64 0, .int .i64 (to.tmod 2147483648), .int .u64 0] 82)).heap.size = w.heap.size + 1) := Lib.hid ⟨(Below.refl _ _).alloc (Nat.le_refl _) _, by simp⟩
  have HC := Lib.hid (loadedOf_walk (w.alloc (.cells #[.int .i64 33, .int .i64 4, .int .i64 1, .int .i64 0, .int .i64 0, .int .i64 (to.tmod 2147483648), .int .u64 0] 82)) w.heap.size 0 1 1 (fun _ => insOf 33 4 1 0 0 (to.tmod 2147483648)) (isIns_new w (insOf 33 4 1 0 0 (to.tmod 2147483648)) _) (by rw [HA.out.2]; omega) (by decide) (by decide))
  have HWI := Lib.hid (word_of 33 4 1 0 0 (to.tmod 2147483648) (by decide) (by decide) (by decide) (by decide) (by decide) HN.out)
  generalize wordOf (insOf 33 4 1 0 0 (to.tmod 2147483648)) = X at *
  go_enter Tryd.func10, Tryd.ntmps10
  go_upto_region 2 with (fail)
  rw [HOP.out]
  go_upto_region 3 with (go_at_call 34; (with_reducible refine HC.out.mono ?_); rintro e y ⟨b, he, hm, hb, hk⟩; obtain rfl : e = _ := he; have HM := Lib.hid hm; have HB : Hid (Below w.heap.size w y ∧ w.heap.size ≤ b) := Lib.hid ⟨bl HA.out.1 hk, Nat.le_trans (by rw [HA.out.2]; omega) hb⟩; clear hm hb hk HC)
  have hT1 := ktab_below HT.out HB.out.1
  have HN1 := Lib.hid (Wt.New_walk y hT1 (lowB_le' hT1))
  clear hT1 HA
  go_upto_region 4 with (go_at_call 13; (with_reducible refine HN1.out.mono ?_); rintro e y2 ⟨s, T, kb, fb, he, hst, hb, hx⟩; obtain rfl : e = _ := he; have HM2 := Lib.hid (HM.out.below hb); have HB2 : Hid (Below w.heap.size w y2) := Lib.hid (bl HB.out.1 hb); clear hst hb hx HN1)
  have hT2 := ktab_below HT.out HB2.out
  have HF := Lib.hid (fixed10_walk y2 hT2 (lowB_le' hT2))
  clear hT2 HM
  go_upto_region 6 with (go_at_call 35; (with_reducible refine HF.out.mono ?_); rintro e y3 ⟨he, hb⟩; obtain rfl : e = _ := he; have HM3 := Lib.hid (HM2.out.below hb); have HB3 : Hid (Below w.heap.size w y3) := Lib.hid (bl HB2.out hb); clear hb HF HM2)
  have k1 : y3.cell? ⟨b, 8193, none⟩ = some (.int .u64 ((0 : Nat) : Int)) := HM3.out.reg (p := 1) (by decide)
  have f1 := HM3.out.fz 8193
  have HM4 : Hid (IsMac (y3.setCell ⟨b, 8193, none⟩ (.int .u64 (x : Int))) b (setR (loaded 1 fun _ => X) 1 x)) := Lib.hid (HM3.out.setReg (d := 1) (by decide) x)
  have HB4 : Hid (Below w.heap.size w (y3.setCell ⟨b, 8193, none⟩ (.int .u64 (x : Int)))) := Lib.hid (HB3.out.setCell HB.out.2 _)
  go_upto_region 7 with (fail)
  clear k1 f1 HM3
  generalize y3.setCell ⟨b, 8193, none⟩ (.int .u64 (x : Int)) = y4 at *
  have k1 : y4.cell? ⟨b, 8193, none⟩ = some (.int .u64 (x : Int)) := HM4.out.reg (p := 1) (by decide)
  have f1 := HM4.out.fz 8193
  have HM4 : Hid (IsMac (y4.setCell ⟨b, 8193, none⟩ (.int .u64 (reg : Int))) b (setR (setR (loaded 1 fun _ => X) 1 x) 1 reg)) := Lib.hid (HM4.out.setReg (d := 1) (by decide) reg)
  have HB4 : Hid (Below w.heap.size w (y4.setCell ⟨b, 8193, none⟩ (.int .u64 (reg : Int)))) := Lib.hid (HB4.out.setCell HB.out.2 _)
  go_upto_region 9 with (fail)
  clear k1 f1
  generalize y4.setCell ⟨b, 8193, none⟩ (.int .u64 (reg : Int)) = y4 at *
  have HLM := Lib.hid (loadMac HM4.out)
  have z9 := zeroMac y4
  have HPQ : Hid (IsMac (y4.alloc (.cells (tab 8211 (mc (setR (setR (loaded 1 fun _ => X) 1 x) 1 reg))) 87)) y4.heap.size (setR (setR (loaded 1 fun _ => X) 1 x) 1 reg) ∧ IsMac (y4.alloc (.cells (tab 8211 (mc (setR (setR (loaded 1 fun _ => X) 1 x) 1 reg))) 87)) b (setR (setR (loaded 1 fun _ => X) 1 x) 1 reg) ∧ Below w.heap.size w (y4.alloc (.cells (tab 8211 (mc (setR (setR (loaded 1 fun _ => X) 1 x) 1 reg))) 87))) := Lib.hid ⟨IsTab.new y4 _ 8211 _, HM4.out.below ((Below.refl _ _).alloc (Nat.le_refl _) _), HB4.out.alloc HB4.out.size _⟩
  generalize hcm : tab 8211 (mc (setR (setR (loaded 1 fun _ => X) 1 x) 1 reg)) = cm at *
  generalize hzm : tab 8211 (mc m0) = zm at *
  have HZ : Hid (zm.size = 8211) := Lib.hid (by rw [← hzm, tab_size])
  have HCM := Lib.hid hcm
  clear hcm hzm
  go_upto_region 10 with (first
    | ((with_reducible refine wpList_loadE (P := Tryd.prog) (w := y4) (ty := 87) (x := .tmp 49) (p := .pointer (some ⟨b, 0, none⟩)) (v := .agg cm) ?_ ?_ ?_ HLM.out ?_); (· exact rfl); (· exact rfl); (· exact rfl))
    | ((with_reducible refine wpList_store_row (P := Tryd.prog) (w := y4.alloc (.cells zm 87)) ?_ 87 (.tmp 12) (.tmp 50) ?_ y4.heap.size cm ?_ ?_ 87 zm (heap_alloc_last y4 _) ?_ ?_ ?_ ?_); (· exact rfl); (· exact rfl); (· exact rfl); (· exact rfl); (· rw [← HCM.out]; exact infM _); (· rw [← HCM.out, HZ.out, tab_size]); (· rw [← HCM.out]; exact one_mc _); rw [World.setRow_alloc_new]; simp only [Act.put]))
  have HQB : Hid (b < y4.heap.size ∧ w.heap.size ≤ y4.heap.size) := Lib.hid ⟨HM4.out.lt, HB4.out.size⟩
  clear z9 HLM HZ HCM HM4 HB4 HB3
  generalize y4.heap.size = q at *
  generalize y4.alloc (.cells cm 87) = y5 at *
  have HFIN : Hid (jumpM (setR (setR (loaded 1 fun _ => X) 1 x) 1 reg) 33 4 1 (wN (to.tmod 2147483648)) = (stopM (setR (setR (loaded 1 fun _ => X) 1 x) 1 reg) 18446744073709551614)) := Lib.hid (by
    unfold jumpM
    have := HTO.out; rw [(show (setR (setR (loaded 1 fun _ => X) 1 x) 1 reg).reg 1 = reg from rfl), if_neg (by omega), if_pos (by simp; omega)])
  have HS := Lib.hid (Step_walk y5 b s (fun w' => IsMac w' b (stopM (setR (setR (loaded 1 fun _ => X) 1 x) 1 reg) 18446744073709551614) ∧ Kept (fun k => k = b) y5 w') (by
    have h := step_jump y5 b s (setR (setR (loaded 1 fun _ => X) 1 x) 1 reg) X ⟨HPQ.out.2.1, ok_setR (ok_setR (ok_loaded 1 (fun _ => X) fun _ => HWI.out.lt) 1 x HX.out.1) 1 reg HX.out.2, rfl, (show 0 < 8192 by decide), rfl, HWI.out.ok⟩ (by rw [HWI.out.op]; decide)
    rw [HWI.out.op, HWI.out.d, HWI.out.a, HWI.out.n, HFIN.out] at h
    exact h))
  go_upto_region 12 with (go_at_call 36; (with_reducible refine HS.out.mono ?_); rintro e y6 ⟨he, hm, hk⟩; obtain rfl : e = _ := he; have HM6 := Lib.hid hm; have HQ6 := Lib.hid (HPQ.out.1.kept hk (by have := HQB.out.1; omega)); have HB6 : Hid (Below w.heap.size w y6) := Lib.hid (Wt.below_of HPQ.out.2.2 hk fun j _ hj => by rw [hj]; exact HB.out.2); clear hm hk HS)
  clear HPQ
  go_upto_region 19 with (fail)
  have k1 := HQ6.out.halted
  have f1 := HQ6.out.fz 8209
  have k2 := HQ6.out.exit
  have f2 := HQ6.out.fz 8210
  have HQ8 : Hid (IsMac ((y6.setCell ⟨q, 8209, none⟩ (.bool true)).setCell ⟨q, 8210, none⟩ (.int .u64 18446744073709551614)) q (stopM (setR (setR (loaded 1 fun _ => X) 1 x) 1 reg) 18446744073709551614)) := Lib.hid ((HQ6.out.setHalted true).setExit 18446744073709551614)
  have HM8 := Lib.hid (HM6.out.kept (kept_set (S := fun k => k = q) (kept_set (S := fun k => k = q) (Kept.refl _ y6) q 8209 rfl (.bool true)) q 8210 rfl (.int .u64 18446744073709551614)) (by have := HQB.out.1; omega))
  have HB8 : Hid (Below w.heap.size w ((y6.setCell ⟨q, 8209, none⟩ (.bool true)).setCell ⟨q, 8210, none⟩ (.int .u64 18446744073709551614))) := Lib.hid ((HB6.out.setCell HQB.out.2 _).setCell HQB.out.2 _)
  go_upto_region 20 with (fail)
  clear k1 f1 k2 f2
  generalize (y6.setCell ⟨q, 8209, none⟩ (.bool true)).setCell ⟨q, 8210, none⟩ (.int .u64 18446744073709551614) = y8 at *
  refine wp_region_og (fun z : World => y8.drew = z) (.take 0 (.take 1 (.take 2 (.take 3 (.take 4 (.take 5 .done)))))) (by kernel_rfl) (by kernel_rfl) rfl ?_
  have HB9 := Lib.hid HB8.out.drew
  have HM9 : Hid (IsMac y8.drew b (stopM (setR (setR (loaded 1 fun _ => X) 1 x) 1 reg) 18446744073709551614)) := Lib.hid (HM8.out.kept (Wt.kept_drew y8) id)
  have HQ9 : Hid (IsMac y8.drew q (stopM (setR (setR (loaded 1 fun _ => X) 1 x) 1 reg) 18446744073709551614)) := Lib.hid (HQ8.out.kept (Wt.kept_drew y8) id)
  have HE := Lib.hid (fun z : World => eqlM (stopM (setR (setR (loaded 1 fun _ => X) 1 x) 1 reg) 18446744073709551614) z)
  have HLB := Lib.hid (loadMac HM9.out)
  have HLQ := Lib.hid (loadMac HQ9.out)
  generalize tab 8211 (mc (stopM (setR (setR (loaded 1 fun _ => X) 1 x) 1 reg) 18446744073709551614)) = cf at *
  generalize y8.drew = y9 at *
  refine og_tk (some 87) (.pointer (some ⟨b, 0, none⟩)) rfl rfl (by go_simp) (fun _ _ => by simp [execOp, go_sem]) ?_
  simp only [Act.put, List.setIfInBounds_toArray, List.set_cons_zero, List.set_cons_succ]
  refine og_tk (some 88) (.pointer (some ⟨b, 0, none⟩)) rfl rfl (by go_simp) (fun _ _ => by simp [execOp, go_sem]) ?_
  simp only [Act.put, List.setIfInBounds_toArray, List.set_cons_zero, List.set_cons_succ]
  refine og_ld (some 89) 87 (.tmp 88) (.pointer (some ⟨b, 0, none⟩)) (.agg cf) rfl rfl (by go_simp) rfl rfl (fun y hy => hy ▸ HLB.out) ?_
  simp only [Act.put, List.setIfInBounds_toArray, List.set_cons_zero, List.set_cons_succ]
  refine og_ld (some 90) 87 (.tmp 12) (.pointer (some ⟨q, 0, none⟩)) (.agg cf) rfl rfl (by go_simp) rfl rfl (fun y hy => hy ▸ HLQ.out) ?_
  simp only [Act.put, List.setIfInBounds_toArray, List.set_cons_zero, List.set_cons_succ]
  refine og_eqM (some 91) (.tmp 89) (.tmp 90) cf cf (.bool true) rfl rfl (by go_simp) rfl rfl rfl (fun z _ => HE.out z) ?_
  simp only [Act.put, List.setIfInBounds_toArray, List.set_cons_zero, List.set_cons_succ]
  refine og_tk (some 8) (.bool true) rfl rfl (by go_simp) (fun _ _ => by simp [execOp, go_sem]) ?_
  simp only [Act.put, List.setIfInBounds_toArray, List.set_cons_zero, List.set_cons_succ]
  refine og_done (NoPanic.normal ?_)
  go_wp2_with (fail)
  exact bodyPost_ret (v := .bool true) (by simp [results, Tryd.results10, go_sem]) rfl ⟨rfl, HB9.out⟩
theorem kind5 (kind : Int) : let z := wrap64 (29 + wrap64 ((IntKind.u64.wrap kind).tmod 5)); z = 29 ∨ z = 30 ∨ z = 31 ∨ z = 32 ∨ z = 33 := by
  have h0 : IntKind.u64.wrap kind = kind % 18446744073709551616 := by simp [IntKind.wrap, IntKind.bits, IntKind.signed]
  simp only [h0]
  have h1 : 0 ≤ kind % 18446744073709551616 := by omega
  rw [Int.tmod_eq_emod_of_nonneg h1]
  unfold wrap64
  omega
theorem vmJumps_walk (kind x to reg : Int) (w0 : (Lit.int .i64 kind).wf = true) (w1 : (Lit.int .u64 x).wf = true) (w2 : (Lit.int .i64 to).wf = true) (w3 : (Lit.int .u64 reg).wf = true) (w : World) (hT : Laid.KTab w) :
    Calls Tryd.prog 10 #[.int .i64 kind, .int .u64 x, .int .i64 to, .int .u64 reg] w fun e w' => e = .returned (.bool true) ∧ Below w.heap.size w w' := by
  have p0 : 0 ≤ x := (of_decide_eq_true (Bool.and_eq_true_iff.1 w1).1)
  have p1 : x ≤ 18446744073709551615 := (of_decide_eq_true (Bool.and_eq_true_iff.1 w1).2)
  have q0 : 0 ≤ reg := (of_decide_eq_true (Bool.and_eq_true_iff.1 w3).1)
  have q1 : reg ≤ 18446744073709551615 := (of_decide_eq_true (Bool.and_eq_true_iff.1 w3).2)
  obtain ⟨x, rfl⟩ := Int.eq_ofNat_of_zero_le p0
  obtain ⟨reg, rfl⟩ := Int.eq_ofNat_of_zero_le q0
  have hx : x < 18446744073709551616 := by omega
  have hr : reg < 18446744073709551616 := by omega
  clear p0 p1 q0 q1 w0 w1 w2 w3
  rcases kind5 kind with h | h | h | h | h
  · rcases Nat.lt_or_ge (wN (to.tmod 2147483648)) 8192 with ht | ht
    · exact vj_29n kind to x reg hx hr h ht w hT
    · exact vj_29f kind to x reg hx hr h ht w hT
  · rcases Nat.eq_zero_or_pos x with hv | hv
    · rcases Nat.lt_or_ge (wN (to.tmod 2147483648)) 8192 with ht | ht
      · exact vj_30n kind to x reg hx hr h hv ht w hT
      · exact vj_30f kind to x reg hx hr h hv ht w hT
    · exact vj_30o kind to x reg hx hr h (by omega) w hT
  · rcases Nat.eq_zero_or_pos x with hv | hv
    · exact vj_31o kind to x reg hx hr h hv w hT
    · rcases Nat.lt_or_ge (wN (to.tmod 2147483648)) 8192 with ht | ht
      · exact vj_31n kind to x reg hx hr h (by omega) ht w hT
      · exact vj_31f kind to x reg hx hr h (by omega) ht w hT
  · rcases Nat.lt_or_ge (wN (to.tmod 2147483648)) 8192 with ht | ht
    · exact vj_32n kind to x reg hx hr h ht w hT
    · exact vj_32f kind to x reg hx hr h ht w hT
  · rcases Nat.lt_or_ge reg 8192 with ht | ht
    · exact vj_33n kind to x reg hx hr h ht w hT
    · exact vj_33f kind to x reg hx hr h ht w hT
end Vm
end Go.Proofs.YtdmffnjbholkkaaDoor
