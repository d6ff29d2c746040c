/-
  vm: VmStores. Written by genYp.py. Own work.
-/
import Derived.Test.YtdmffnjbholkkaaDoorYn
import Derived.Test.YtdmffnjbholkkaaDoorYo
namespace Go.Proofs.YtdmffnjbholkkaaDoor
open Go.RowKit
set_option linter.unusedVariables false
set_option linter.unusedSimpArgs false
namespace Vm
open Kc
theorem og_neM {ops : Array Oper} {Q : Exit → Act → World → Prop} {S : World → Prop} {k : Nat} {r : OG} {o : Oper} {a : Act} {w : World} (d : Option Tmp) (x z : Operand) (vx vz : Array Value) (v : Value) (ho : ops[k]? = some o) (hd : o.dst = d) (hw : Region.wanted o (yielded ops a.tmps) = true) (hop : o.op = .binOp .neq 87 x z 87) (hx : a.eval x = .agg vx) (hz : a.eval z = .agg vz)
    (hl : ∀ w, S w → (binOp .neq 87 (.agg vx) (.agg vz)).run Tryd.prog w = .ok v w) (h : wpOg Tryd.prog ops Q r S (a.put d v) w) : wpOg Tryd.prog ops Q (.take k r) S a w :=
  og_tk d v ho hd hw (fun w hw => by
    have e1 := run_eqGuard_agg (P := Tryd.prog) (w := w) .neq 87 x z vx vz guardM
    have e2 := hl w hw
    unfold execOp
    simp only [hop, hx, hz]
    generalize binOp .neq 87 (.agg vx) (.agg vz) = B at *
    generalize eqGuard .neq 87 x z (.agg vx) (.agg vz) = G at *
    simp [e1, e2, Result.andThen]) h
theorem i32_in (z : Int) : -2147483648 ≤ wrap64 (wrap32 z) ∧ wrap64 (wrap32 z) < 2147483648 := by
  unfold wrap64 wrap32
  omega
theorem ok_setM {M : Mac} (h : OkM M) (p v : Nat) (hv : v < 18446744073709551616) : OkM (setM M p v) := by
  refine ⟨fun i => ?_, h.reg, h.pc, h.exit⟩
  show (if i = p then v else M.mem i) < _
  split
  · exact hv
  · exact h.mem i
def gm (A B C : Mac) : Nat → Mac
  | 0 => A
  | 1 => B
  | _ => C
/-- Two steps that end halted or at the limit. -/
theorem run2_walk (b s : Nat) (A B C : Mac) (W y : World) (hA : A.halted = false) (hB : B.halted = false) (hb : W.heap.size ≤ b)
    (h1 : ∀ y, IsMac y b A → Calls Tryd.prog 65 #[.pointer (some ⟨b, 0, none⟩), .pointer (some ⟨s, 0, none⟩)] y fun e w' => e = .returned (.tuple #[]) ∧ IsMac w' b B ∧ Kept (fun k => k = b) y w')
    (h2 : ∀ y, IsMac y b B → Calls Tryd.prog 65 #[.pointer (some ⟨b, 0, none⟩), .pointer (some ⟨s, 0, none⟩)] y fun e w' => e = .returned (.tuple #[]) ∧ IsMac w' b C ∧ Kept (fun k => k = b) y w')
    (hm : IsMac y b A) (hw : Below W.heap.size W y) :
    Calls Tryd.prog 37 #[.pointer (some ⟨b, 0, none⟩), .pointer (some ⟨s, 0, none⟩), .int .i64 2] y fun e w' => e = .returned (.tuple #[.int .i64 2, .nilIface]) ∧ (IsMac w' b C ∧ Below W.heap.size W w') :=
  run_walk b s 2 2 (gm A B C) (fun i y => IsMac y b (gm A B C i) ∧ Below W.heap.size W y) (fun i y h => h.1) (fun i y hi h => by
    have ei : i = 0 ∨ i = 1 := by omega
    rcases ei with rfl | rfl
    · refine (h1 y h.1).mono ?_
      rintro e w' ⟨he, hm, hk⟩
      exact ⟨he, hm, Wt.below_of h.2 hk fun j _ hj => by rw [hj]; exact hb⟩
    · refine (h2 y h.1).mono ?_
      rintro e w' ⟨he, hm, hk⟩
      exact ⟨he, hm, Wt.below_of h.2 hk fun j _ hj => by rw [hj]; exact hb⟩) (by decide) (fun i hi => by
    have ei : i = 0 ∨ i = 1 := by omega
    rcases ei with rfl | rfl
    · exact hA
    · exact hB) (.inl rfl) (by decide) y ⟨hm, hw⟩
/-- The law's three instructions. -/
def three (n : Int) (j : Nat) : Ins := if j = 0 then insOf 28 0 1 2 0 n else if j = 1 then insOf 27 3 1 0 0 n else insOf 0 0 3 0 0 0
theorem isIns_three (w : World) (n : Int) (t : TypeId) : IsIns (w.alloc (.cells (insV (three n 0) ++ insV (three n 1) ++ insV (three n 2)).toArray t)) w.heap.size 0 3 (three n) := fun j i v hj hv => by
  have hi : i < 7 := by
    obtain ⟨h, _⟩ := List.getElem?_eq_some_iff.1 hv
    simpa [insV] using h
  rw [show 0 + j * 7 + i = j * 7 + i from by omega, cell_of_row _ _ _ _ _ _ (heap_alloc_new w _)]
  have e : j = 0 ∨ j = 1 ∨ j = 2 := by omega
  have e7 : i = 0 ∨ i = 1 ∨ i = 2 ∨ i = 3 ∨ i = 4 ∨ i = 5 ∨ i = 6 := by omega
  rcases e with rfl | rfl | rfl <;> (rw [← hv]; clear hv hi hj; rcases e7 with rfl | rfl | rfl | rfl | rfl | rfl | rfl <;> rfl)
set_option maxHeartbeats 4000000 in
set_option maxRecDepth 100000 in
theorem vs_far (n : Int) (base v p : Nat) (hx : base < 18446744073709551616) (hr : v < 18446744073709551616) (hp : IntKind.u64.wrap ((base : Int) + IntKind.u64.wrap (wrap64 (wrap32 n))) = p) (hto : 8192 ≤ p) (w : World) (hT : Laid.KTab w) :
    Calls Tryd.prog 8 #[.int .u64 base, .int .i64 n, .int .u64 v] w fun e w' => e = .returned (.bool true) ∧ Below w.heap.size w w' := by
  have HN := Lib.hid (i32_in n)
  have HX := Lib.hid (And.intro hx hr)
  have HP := Lib.hid hp
  have HT := Lib.hid hT
  have t1 : decide (8192 ≤ (p : Int)) = true := by simp; omega
  have HTO := Lib.hid hto
  clear hto
  clear hx hr hp hT
  have HA : Hid (Below w.heap.size w (w.alloc (.cells #[.int .i64 28, .int .i64 0, .int .i64 1, .int .i64 2, .int .i64 0, .int .i64 (wrap64 (wrap32 n)), .int .u64 0, .int .i64 27, .int .i64 3, .int .i64 1, .int .i64 0, .int .i64 0, .int .i64 (wrap64 (wrap32 n)), .int .u64 0, .int .i64 0, .int .i64 0, .int .i64 3, .int .i64 0, .int .i64 0, .int .i64 0, .int .u64 0] 82)) ∧ (w.alloc (.cells #[.int .i64 28, .int .i64 0, .int .i64 1, .int .i64 2, .int .i64 0, .int .i64 (wrap64 (wrap32 n)), .int .u64 0, .int .i64 27, .int .i64 3, .int .i64 1, .int .i64 0, .int .i64 0, .int .i64 (wrap64 (wrap32 n)), .int .u64 0, .int .i64 0, .int .i64 0, .int .i64 3, .int .i64 0, .int .i64 0, .int .i64 0, .int .u64 0] 82)).heap.size = w.heap.size + 1) := Lib.hid ⟨(Below.refl _ _).alloc (Nat.le_refl _) _, by simp⟩
  have HC := Lib.hid (loadedOf_walk (w.alloc (.cells #[.int .i64 28, .int .i64 0, .int .i64 1, .int .i64 2, .int .i64 0, .int .i64 (wrap64 (wrap32 n)), .int .u64 0, .int .i64 27, .int .i64 3, .int .i64 1, .int .i64 0, .int .i64 0, .int .i64 (wrap64 (wrap32 n)), .int .u64 0, .int .i64 0, .int .i64 0, .int .i64 3, .int .i64 0, .int .i64 0, .int .i64 0, .int .u64 0] 82)) w.heap.size 0 3 3 (three (wrap64 (wrap32 n))) (isIns_three w (wrap64 (wrap32 n)) _) (by rw [HA.out.2]; omega) (by decide) (by decide))
  have HW0 : Hid (WordIs (wordOf (three (wrap64 (wrap32 n)) 0)) 28 0 1 2 0 (wrap64 (wrap32 n))) := Lib.hid (word_of 28 0 1 2 0 _ (by decide) (by decide) (by decide) (by decide) (by decide) HN.out)
  have HW1 : Hid (WordIs (wordOf (three (wrap64 (wrap32 n)) 1)) 27 3 1 0 0 (wrap64 (wrap32 n))) := Lib.hid (word_of 27 3 1 0 0 _ (by decide) (by decide) (by decide) (by decide) (by decide) HN.out)
  have HW2 : Hid (WordIs (wordOf (three (wrap64 (wrap32 n)) 2)) 0 0 3 0 0 0) := Lib.hid (word_of 0 0 3 0 0 0 (by decide) (by decide) (by decide) (by decide) (by decide) (by decide))
  have HWA : Hid (∀ i, wordOf (three (wrap64 (wrap32 n)) i) < 18446744073709551616) := Lib.hid (fun i => by
    rcases i with _ | _ | i
    · exact HW0.out.lt
    · exact HW1.out.lt
    · exact HW2.out.lt)
  generalize hX : (fun j => wordOf (three (wrap64 (wrap32 n)) j)) = X at *
  have e0 : wordOf (three (wrap64 (wrap32 n)) 0) = X 0 := congrFun hX 0
  have e1 : wordOf (three (wrap64 (wrap32 n)) 1) = X 1 := congrFun hX 1
  have e2 : wordOf (three (wrap64 (wrap32 n)) 2) = X 2 := congrFun hX 2
  have HWA : Hid (∀ i, X i < 18446744073709551616) := Lib.hid (fun i => by rw [← hX]; exact HWA.out i)
  rw [e0] at HW0
  rw [e1] at HW1
  rw [e2] at HW2
  clear e0 e1 e2 hX
  go_enter Tryd.func8, Tryd.ntmps8
  go_upto_region 3 with (go_at_call 34; (with_reducible refine HC.out.mono ?_); rintro e y ⟨b, he, hm, hb, hk⟩; obtain rfl : e = _ := he; have HM := Lib.hid hm; have HB : Hid (Below w.heap.size w y ∧ w.heap.size ≤ b) := Lib.hid ⟨bl HA.out.1 hk, Nat.le_trans (by rw [HA.out.2]; omega) hb⟩; clear hm hb hk HC)
  have hT1 := ktab_below HT.out HB.out.1
  have HN1 := Lib.hid (Wt.New_walk y hT1 (lowB_le' hT1))
  clear hT1 HA
  go_upto_region 4 with (go_at_call 13; (with_reducible refine HN1.out.mono ?_); rintro e y2 ⟨s, T, kb, fb, he, hst, hb, hx⟩; obtain rfl : e = _ := he; have HM2 := Lib.hid (HM.out.below hb); have HB2 : Hid (Below w.heap.size w y2) := Lib.hid (bl HB.out.1 hb); clear hst hb hx HN1)
  have hT2 := ktab_below HT.out HB2.out
  have HF := Lib.hid (fixed10_walk y2 hT2 (lowB_le' hT2))
  clear hT2 HM
  go_upto_region 6 with (go_at_call 35; (with_reducible refine HF.out.mono ?_); rintro e y3 ⟨he, hb⟩; obtain rfl : e = _ := he; have HM3 := Lib.hid (HM2.out.below hb); have HB3 : Hid (Below w.heap.size w y3) := Lib.hid (bl HB2.out hb); clear hb HF HM2)
  have HM3 := Lib.hid (HM3.out.kept (Wt.kept_drew y3) id)
  have HB3 := Lib.hid HB3.out.drew
  refine wp_region_oz (fun _ : World => True) 11 (.take 0 (.take 1 (.take 2 (.take 3 (.take 4 (.take 5 (.take 6 (.free 8 (.free 9 (.one 7 (.free 10 (.one 11 .done)))))))))))) (by kernel_rfl) (by kernel_rfl) trivial ?_
  generalize y3.drew = y3 at *
  refine oz_tk (some 33) (.pointer (some ⟨b, 0, none⟩)) rfl rfl (by go_simp) (fun _ _ => by simp [execOp, go_sem]) ?_
  simp only [Act.put, List.setIfInBounds_toArray, List.set_cons_zero, List.set_cons_succ]
  refine oz_tk (some 34) (.pointer (some ⟨b, 0, none⟩)) rfl rfl (by go_simp) (fun _ _ => by simp [execOp, go_sem]) ?_
  simp only [Act.put, List.setIfInBounds_toArray, List.set_cons_zero, List.set_cons_succ]
  refine oz_tk (some 35) (.int .u64 base) rfl rfl (by go_simp) (fun _ _ => by simp [execOp, go_sem]) ?_
  simp only [Act.put, List.setIfInBounds_toArray, List.set_cons_zero, List.set_cons_succ]
  refine oz_tk (some 36) (.int .u64 v) rfl rfl (by go_simp) (fun _ _ => by simp [execOp, go_sem]) ?_
  simp only [Act.put, List.setIfInBounds_toArray, List.set_cons_zero, List.set_cons_succ]
  refine oz_tk (some 37) (.pointer (some ⟨b, 0, none⟩)) rfl rfl (by go_simp) (fun _ _ => by simp [execOp, go_sem]) ?_
  simp only [Act.put, List.setIfInBounds_toArray, List.set_cons_zero, List.set_cons_succ]
  refine oz_tk (some 38) (.pointer (some ⟨b, 8192, none⟩)) rfl rfl (by go_simp) (fun _ _ => by simp [execOp, go_sem]) ?_
  simp only [Act.put, List.setIfInBounds_toArray, List.set_cons_zero, List.set_cons_succ]
  refine oz_tk (some 39) (.pointer (some ⟨b, 8193, none⟩)) rfl rfl (by go_simp) (fun _ _ => by simp [execOp, go_sem, Result.andThen, Tryd.underlying85]) ?_
  simp only [Act.put, List.setIfInBounds_toArray, List.set_cons_zero, List.set_cons_succ]
  refine oz_fr (some 40) (.pointer (some ⟨b, 0, none⟩)) rfl rfl (by go_simp) (fun _ => by simp [execOp, go_sem]) ?_
  simp only [Act.put, List.setIfInBounds_toArray, List.set_cons_zero, List.set_cons_succ]
  refine oz_fr (some 41) (.pointer (some ⟨b, 8192, none⟩)) rfl rfl (by go_simp) (fun _ => by simp [execOp, go_sem]) ?_
  simp only [Act.put, List.setIfInBounds_toArray, List.set_cons_zero, List.set_cons_succ]
  have kd : y3.cell? ⟨b, 8193, none⟩ = some (.int .u64 ((0 : Nat) : Int)) := HM3.out.reg (p := 1) (by decide)
  have fd := HM3.out.fz 8193
  have HM4 : Hid (IsMac (y3.setCell ⟨b, 8193, none⟩ (.int .u64 (base : Int))) b (setR (loaded 3 X) 1 base)) := Lib.hid (HM3.out.setReg (d := 1) (by decide) base)
  have HB4 : Hid (Below w.heap.size w (y3.setCell ⟨b, 8193, none⟩ (.int .u64 (base : Int)))) := Lib.hid (HB3.out.setCell HB.out.2 _)
  refine oz_f rfl (by go_simp) fun K hK => ?_
  go_simp
  refine hK _ _ trivial ?_
  clear hK K kd fd HM3 HB3
  generalize y3.setCell ⟨b, 8193, none⟩ (.int .u64 (base : Int)) = y4 at *
  refine oz_fr (some 42) (.pointer (some ⟨b, 8194, none⟩)) rfl rfl (by go_simp) (fun _ => by simp [execOp, go_sem, Result.andThen, Tryd.underlying85]) ?_
  simp only [Act.put, List.setIfInBounds_toArray, List.set_cons_zero, List.set_cons_succ]
  have kd : y4.cell? ⟨b, 8194, none⟩ = some (.int .u64 ((0 : Nat) : Int)) := HM4.out.reg (p := 2) (by decide)
  have fd := HM4.out.fz 8194
  have HM4 : Hid (IsMac (y4.setCell ⟨b, 8194, none⟩ (.int .u64 (v : Int))) b (setR (setR (loaded 3 X) 1 base) 2 v)) := Lib.hid (HM4.out.setReg (d := 2) (by decide) v)
  have HB4 : Hid (Below w.heap.size w (y4.setCell ⟨b, 8194, none⟩ (.int .u64 (v : Int)))) := Lib.hid (HB4.out.setCell HB.out.2 _)
  refine oz_z rfl (by go_simp) fun K hK => ?_
  go_simp
  refine hK _ _ ?_
  clear hK K kd fd
  refine oz_done (NoPanic.normal ?_)
  generalize y4.setCell ⟨b, 8194, none⟩ (.int .u64 (v : Int)) = y4 at *
  have HLM := Lib.hid (loadMac HM4.out)
  have z9 := zeroMac y4
  have HPQ : Hid (IsMac (y4.alloc (.cells (tab 8211 (mc (setR (setR (loaded 3 X) 1 base) 2 v))) 87)) y4.heap.size (setR (setR (loaded 3 X) 1 base) 2 v) ∧ IsMac (y4.alloc (.cells (tab 8211 (mc (setR (setR (loaded 3 X) 1 base) 2 v))) 87)) b (setR (setR (loaded 3 X) 1 base) 2 v) ∧ Below w.heap.size w (y4.alloc (.cells (tab 8211 (mc (setR (setR (loaded 3 X) 1 base) 2 v))) 87))) := Lib.hid ⟨IsTab.new y4 _ 8211 _, HM4.out.below ((Below.refl _ _).alloc (Nat.le_refl _) _), HB4.out.alloc HB4.out.size _⟩
  generalize hcm : tab 8211 (mc (setR (setR (loaded 3 X) 1 base) 2 v)) = cm at *
  generalize hzm : tab 8211 (mc m0) = zm at *
  have HZ : Hid (zm.size = 8211) := Lib.hid (by rw [← hzm, tab_size])
  have HCM := Lib.hid hcm
  clear hcm hzm
  go_upto_region 8 with (first
    | ((with_reducible refine wpList_loadE (P := Tryd.prog) (w := y4) (ty := 87) (x := .tmp 44) (p := .pointer (some ⟨b, 0, none⟩)) (v := .agg cm) ?_ ?_ ?_ HLM.out ?_); (· exact rfl); (· exact rfl); (· exact rfl))
    | ((with_reducible refine wpList_store_row (P := Tryd.prog) (w := y4.alloc (.cells zm 87)) ?_ 87 (.tmp 9) (.tmp 45) ?_ y4.heap.size cm ?_ ?_ 87 zm (heap_alloc_last y4 _) ?_ ?_ ?_ ?_); (· exact rfl); (· exact rfl); (· exact rfl); (· exact rfl); (· rw [← HCM.out]; exact infM _); (· rw [← HCM.out, HZ.out, tab_size]); (· rw [← HCM.out]; exact one_mc _); rw [World.setRow_alloc_new]; simp only [Act.put]))
  have HQB : Hid (b < y4.heap.size ∧ w.heap.size ≤ y4.heap.size) := Lib.hid ⟨HM4.out.lt, HB4.out.size⟩
  clear z9 HLM HZ HCM HM4 HB4
  generalize y4.heap.size = q at *
  generalize y4.alloc (.cells cm 87) = y5 at *
  have HFIN : Hid (accM (setR (setR (loaded 3 X) 1 base) 2 v) 28 0 2 p = (stopM (setR (setR (loaded 3 X) 1 base) 2 v) 18446744073709551614)) := Lib.hid (by
    unfold accM
    have := HTO.out; rw [if_pos (by omega)])
  have HS := Lib.hid (Step_walk y5 b s (fun w' => IsMac w' b (stopM (setR (setR (loaded 3 X) 1 base) 2 v) 18446744073709551614) ∧ Kept (fun k => k = b) y5 w') (by
    have h := step_acc y5 b s (setR (setR (loaded 3 X) 1 base) 2 v) (X 0) ⟨HPQ.out.2.1, ok_setR (ok_setR (ok_loaded 3 X HWA.out) 1 base HX.out.1) 2 v HX.out.2, rfl, (show 0 < 8192 by decide), rfl, HW0.out.ok⟩ (.inr HW0.out.op) p (by rw [HW0.out.a, HW0.out.n]; exact HP.out)
    rw [HW0.out.op, HW0.out.d, HW0.out.b, HFIN.out] at h
    exact h))
  go_upto_region 9 with (fail)
  rw [HP.out]
  go_upto_region 12 with (go_at_call 36; (with_reducible refine HS.out.mono ?_); rintro e y6 ⟨he, hm, hk⟩; obtain rfl : e = _ := he; have HM6 := Lib.hid hm; have HQ6 := Lib.hid (HPQ.out.1.kept hk (by have := HQB.out.1; omega)); have HB6 : Hid (Below w.heap.size w y6) := Lib.hid (Wt.below_of HPQ.out.2.2 hk fun j _ hj => by rw [hj]; exact HB.out.2); clear hm hk HS)
  clear HPQ
  go_upto_region 13 with (fail)
  have k1 := HQ6.out.halted
  have f1 := HQ6.out.fz 8209
  have k2 := HQ6.out.exit
  have f2 := HQ6.out.fz 8210
  have HQ8 : Hid (IsMac ((y6.setCell ⟨q, 8209, none⟩ (.bool true)).setCell ⟨q, 8210, none⟩ (.int .u64 18446744073709551614)) q (stopM (setR (setR (loaded 3 X) 1 base) 2 v) 18446744073709551614)) := Lib.hid ((HQ6.out.setHalted true).setExit 18446744073709551614)
  have HM8 := Lib.hid (HM6.out.kept (kept_set (S := fun k => k = q) (kept_set (S := fun k => k = q) (Kept.refl _ y6) q 8209 rfl (.bool true)) q 8210 rfl (.int .u64 18446744073709551614)) (by have := HQB.out.1; omega))
  have HB8 : Hid (Below w.heap.size w ((y6.setCell ⟨q, 8209, none⟩ (.bool true)).setCell ⟨q, 8210, none⟩ (.int .u64 18446744073709551614))) := Lib.hid ((HB6.out.setCell HQB.out.2 _).setCell HQB.out.2 _)
  go_upto_region 14 with (fail)
  clear k1 f1 k2 f2
  generalize (y6.setCell ⟨q, 8209, none⟩ (.bool true)).setCell ⟨q, 8210, none⟩ (.int .u64 18446744073709551614) = y8 at *
  refine wp_region_og (fun z : World => y8.drew = z) (.take 0 (.take 1 (.take 2 (.take 3 (.take 4 (.take 5 .done)))))) (by kernel_rfl) (by kernel_rfl) rfl ?_
  have HB9 := Lib.hid HB8.out.drew
  have HM9 : Hid (IsMac y8.drew b (stopM (setR (setR (loaded 3 X) 1 base) 2 v) 18446744073709551614)) := Lib.hid (HM8.out.kept (Wt.kept_drew y8) id)
  have HQ9 : Hid (IsMac y8.drew q (stopM (setR (setR (loaded 3 X) 1 base) 2 v) 18446744073709551614)) := Lib.hid (HQ8.out.kept (Wt.kept_drew y8) id)
  have HE := Lib.hid (fun z : World => eqlM (stopM (setR (setR (loaded 3 X) 1 base) 2 v) 18446744073709551614) z)
  have HLB := Lib.hid (loadMac HM9.out)
  have HLQ := Lib.hid (loadMac HQ9.out)
  generalize tab 8211 (mc (stopM (setR (setR (loaded 3 X) 1 base) 2 v) 18446744073709551614)) = cf at *
  generalize y8.drew = y9 at *
  refine og_tk (some 59) (.pointer (some ⟨b, 0, none⟩)) rfl rfl (by go_simp) (fun _ _ => by simp [execOp, go_sem]) ?_
  simp only [Act.put, List.setIfInBounds_toArray, List.set_cons_zero, List.set_cons_succ]
  refine og_tk (some 60) (.pointer (some ⟨b, 0, none⟩)) rfl rfl (by go_simp) (fun _ _ => by simp [execOp, go_sem]) ?_
  simp only [Act.put, List.setIfInBounds_toArray, List.set_cons_zero, List.set_cons_succ]
  refine og_ld (some 61) 87 (.tmp 60) (.pointer (some ⟨b, 0, none⟩)) (.agg cf) rfl rfl (by go_simp) rfl rfl (fun y hy => hy ▸ HLB.out) ?_
  simp only [Act.put, List.setIfInBounds_toArray, List.set_cons_zero, List.set_cons_succ]
  refine og_ld (some 62) 87 (.tmp 9) (.pointer (some ⟨q, 0, none⟩)) (.agg cf) rfl rfl (by go_simp) rfl rfl (fun y hy => hy ▸ HLQ.out) ?_
  simp only [Act.put, List.setIfInBounds_toArray, List.set_cons_zero, List.set_cons_succ]
  refine og_eqM (some 63) (.tmp 61) (.tmp 62) cf cf (.bool true) rfl rfl (by go_simp) rfl rfl rfl (fun z _ => HE.out z) ?_
  simp only [Act.put, List.setIfInBounds_toArray, List.set_cons_zero, List.set_cons_succ]
  refine og_tk (some 6) (.bool true) rfl rfl (by go_simp) (fun _ _ => by simp [execOp, go_sem]) ?_
  simp only [Act.put, List.setIfInBounds_toArray, List.set_cons_zero, List.set_cons_succ]
  refine og_done (NoPanic.normal ?_)
  go_wp2_with (fail)
  exact bodyPost_ret (v := .bool true) (by simp [results, Tryd.results8, go_sem]) rfl ⟨rfl, HB9.out⟩
set_option maxHeartbeats 4000000 in
set_option maxRecDepth 100000 in
theorem vs_low (n : Int) (base v p : Nat) (hx : base < 18446744073709551616) (hr : v < 18446744073709551616) (hp : IntKind.u64.wrap ((base : Int) + IntKind.u64.wrap (wrap64 (wrap32 n))) = p) (hto : p < 8192 ∧ p < 3) (w : World) (hT : Laid.KTab w) :
    Calls Tryd.prog 8 #[.int .u64 base, .int .i64 n, .int .u64 v] w fun e w' => e = .returned (.bool true) ∧ Below w.heap.size w w' := by
  have HN := Lib.hid (i32_in n)
  have HX := Lib.hid (And.intro hx hr)
  have HP := Lib.hid hp
  have HT := Lib.hid hT
  have t1 : decide (8192 ≤ (p : Int)) = false := by simp; omega
  have t2 : decide ((p : Int) < 3) = true := by simp; omega
  have HTO := Lib.hid hto
  clear hto
  clear hx hr hp hT
  have HA : Hid (Below w.heap.size w (w.alloc (.cells #[.int .i64 28, .int .i64 0, .int .i64 1, .int .i64 2, .int .i64 0, .int .i64 (wrap64 (wrap32 n)), .int .u64 0, .int .i64 27, .int .i64 3, .int .i64 1, .int .i64 0, .int .i64 0, .int .i64 (wrap64 (wrap32 n)), .int .u64 0, .int .i64 0, .int .i64 0, .int .i64 3, .int .i64 0, .int .i64 0, .int .i64 0, .int .u64 0] 82)) ∧ (w.alloc (.cells #[.int .i64 28, .int .i64 0, .int .i64 1, .int .i64 2, .int .i64 0, .int .i64 (wrap64 (wrap32 n)), .int .u64 0, .int .i64 27, .int .i64 3, .int .i64 1, .int .i64 0, .int .i64 0, .int .i64 (wrap64 (wrap32 n)), .int .u64 0, .int .i64 0, .int .i64 0, .int .i64 3, .int .i64 0, .int .i64 0, .int .i64 0, .int .u64 0] 82)).heap.size = w.heap.size + 1) := Lib.hid ⟨(Below.refl _ _).alloc (Nat.le_refl _) _, by simp⟩
  have HC := Lib.hid (loadedOf_walk (w.alloc (.cells #[.int .i64 28, .int .i64 0, .int .i64 1, .int .i64 2, .int .i64 0, .int .i64 (wrap64 (wrap32 n)), .int .u64 0, .int .i64 27, .int .i64 3, .int .i64 1, .int .i64 0, .int .i64 0, .int .i64 (wrap64 (wrap32 n)), .int .u64 0, .int .i64 0, .int .i64 0, .int .i64 3, .int .i64 0, .int .i64 0, .int .i64 0, .int .u64 0] 82)) w.heap.size 0 3 3 (three (wrap64 (wrap32 n))) (isIns_three w (wrap64 (wrap32 n)) _) (by rw [HA.out.2]; omega) (by decide) (by decide))
  have HW0 : Hid (WordIs (wordOf (three (wrap64 (wrap32 n)) 0)) 28 0 1 2 0 (wrap64 (wrap32 n))) := Lib.hid (word_of 28 0 1 2 0 _ (by decide) (by decide) (by decide) (by decide) (by decide) HN.out)
  have HW1 : Hid (WordIs (wordOf (three (wrap64 (wrap32 n)) 1)) 27 3 1 0 0 (wrap64 (wrap32 n))) := Lib.hid (word_of 27 3 1 0 0 _ (by decide) (by decide) (by decide) (by decide) (by decide) HN.out)
  have HW2 : Hid (WordIs (wordOf (three (wrap64 (wrap32 n)) 2)) 0 0 3 0 0 0) := Lib.hid (word_of 0 0 3 0 0 0 (by decide) (by decide) (by decide) (by decide) (by decide) (by decide))
  have HWA : Hid (∀ i, wordOf (three (wrap64 (wrap32 n)) i) < 18446744073709551616) := Lib.hid (fun i => by
    rcases i with _ | _ | i
    · exact HW0.out.lt
    · exact HW1.out.lt
    · exact HW2.out.lt)
  generalize hX : (fun j => wordOf (three (wrap64 (wrap32 n)) j)) = X at *
  have e0 : wordOf (three (wrap64 (wrap32 n)) 0) = X 0 := congrFun hX 0
  have e1 : wordOf (three (wrap64 (wrap32 n)) 1) = X 1 := congrFun hX 1
  have e2 : wordOf (three (wrap64 (wrap32 n)) 2) = X 2 := congrFun hX 2
  have HWA : Hid (∀ i, X i < 18446744073709551616) := Lib.hid (fun i => by rw [← hX]; exact HWA.out i)
  rw [e0] at HW0
  rw [e1] at HW1
  rw [e2] at HW2
  clear e0 e1 e2 hX
  go_enter Tryd.func8, Tryd.ntmps8
  go_upto_region 3 with (go_at_call 34; (with_reducible refine HC.out.mono ?_); rintro e y ⟨b, he, hm, hb, hk⟩; obtain rfl : e = _ := he; have HM := Lib.hid hm; have HB : Hid (Below w.heap.size w y ∧ w.heap.size ≤ b) := Lib.hid ⟨bl HA.out.1 hk, Nat.le_trans (by rw [HA.out.2]; omega) hb⟩; clear hm hb hk HC)
  have hT1 := ktab_below HT.out HB.out.1
  have HN1 := Lib.hid (Wt.New_walk y hT1 (lowB_le' hT1))
  clear hT1 HA
  go_upto_region 4 with (go_at_call 13; (with_reducible refine HN1.out.mono ?_); rintro e y2 ⟨s, T, kb, fb, he, hst, hb, hx⟩; obtain rfl : e = _ := he; have HM2 := Lib.hid (HM.out.below hb); have HB2 : Hid (Below w.heap.size w y2) := Lib.hid (bl HB.out.1 hb); clear hst hb hx HN1)
  have hT2 := ktab_below HT.out HB2.out
  have HF := Lib.hid (fixed10_walk y2 hT2 (lowB_le' hT2))
  clear hT2 HM
  go_upto_region 6 with (go_at_call 35; (with_reducible refine HF.out.mono ?_); rintro e y3 ⟨he, hb⟩; obtain rfl : e = _ := he; have HM3 := Lib.hid (HM2.out.below hb); have HB3 : Hid (Below w.heap.size w y3) := Lib.hid (bl HB2.out hb); clear hb HF HM2)
  have HM3 := Lib.hid (HM3.out.kept (Wt.kept_drew y3) id)
  have HB3 := Lib.hid HB3.out.drew
  refine wp_region_oz (fun _ : World => True) 11 (.take 0 (.take 1 (.take 2 (.take 3 (.take 4 (.take 5 (.take 6 (.free 8 (.free 9 (.one 7 (.free 10 (.one 11 .done)))))))))))) (by kernel_rfl) (by kernel_rfl) trivial ?_
  generalize y3.drew = y3 at *
  refine oz_tk (some 33) (.pointer (some ⟨b, 0, none⟩)) rfl rfl (by go_simp) (fun _ _ => by simp [execOp, go_sem]) ?_
  simp only [Act.put, List.setIfInBounds_toArray, List.set_cons_zero, List.set_cons_succ]
  refine oz_tk (some 34) (.pointer (some ⟨b, 0, none⟩)) rfl rfl (by go_simp) (fun _ _ => by simp [execOp, go_sem]) ?_
  simp only [Act.put, List.setIfInBounds_toArray, List.set_cons_zero, List.set_cons_succ]
  refine oz_tk (some 35) (.int .u64 base) rfl rfl (by go_simp) (fun _ _ => by simp [execOp, go_sem]) ?_
  simp only [Act.put, List.setIfInBounds_toArray, List.set_cons_zero, List.set_cons_succ]
  refine oz_tk (some 36) (.int .u64 v) rfl rfl (by go_simp) (fun _ _ => by simp [execOp, go_sem]) ?_
  simp only [Act.put, List.setIfInBounds_toArray, List.set_cons_zero, List.set_cons_succ]
  refine oz_tk (some 37) (.pointer (some ⟨b, 0, none⟩)) rfl rfl (by go_simp) (fun _ _ => by simp [execOp, go_sem]) ?_
  simp only [Act.put, List.setIfInBounds_toArray, List.set_cons_zero, List.set_cons_succ]
  refine oz_tk (some 38) (.pointer (some ⟨b, 8192, none⟩)) rfl rfl (by go_simp) (fun _ _ => by simp [execOp, go_sem]) ?_
  simp only [Act.put, List.setIfInBounds_toArray, List.set_cons_zero, List.set_cons_succ]
  refine oz_tk (some 39) (.pointer (some ⟨b, 8193, none⟩)) rfl rfl (by go_simp) (fun _ _ => by simp [execOp, go_sem, Result.andThen, Tryd.underlying85]) ?_
  simp only [Act.put, List.setIfInBounds_toArray, List.set_cons_zero, List.set_cons_succ]
  refine oz_fr (some 40) (.pointer (some ⟨b, 0, none⟩)) rfl rfl (by go_simp) (fun _ => by simp [execOp, go_sem]) ?_
  simp only [Act.put, List.setIfInBounds_toArray, List.set_cons_zero, List.set_cons_succ]
  refine oz_fr (some 41) (.pointer (some ⟨b, 8192, none⟩)) rfl rfl (by go_simp) (fun _ => by simp [execOp, go_sem]) ?_
  simp only [Act.put, List.setIfInBounds_toArray, List.set_cons_zero, List.set_cons_succ]
  have kd : y3.cell? ⟨b, 8193, none⟩ = some (.int .u64 ((0 : Nat) : Int)) := HM3.out.reg (p := 1) (by decide)
  have fd := HM3.out.fz 8193
  have HM4 : Hid (IsMac (y3.setCell ⟨b, 8193, none⟩ (.int .u64 (base : Int))) b (setR (loaded 3 X) 1 base)) := Lib.hid (HM3.out.setReg (d := 1) (by decide) base)
  have HB4 : Hid (Below w.heap.size w (y3.setCell ⟨b, 8193, none⟩ (.int .u64 (base : Int)))) := Lib.hid (HB3.out.setCell HB.out.2 _)
  refine oz_f rfl (by go_simp) fun K hK => ?_
  go_simp
  refine hK _ _ trivial ?_
  clear hK K kd fd HM3 HB3
  generalize y3.setCell ⟨b, 8193, none⟩ (.int .u64 (base : Int)) = y4 at *
  refine oz_fr (some 42) (.pointer (some ⟨b, 8194, none⟩)) rfl rfl (by go_simp) (fun _ => by simp [execOp, go_sem, Result.andThen, Tryd.underlying85]) ?_
  simp only [Act.put, List.setIfInBounds_toArray, List.set_cons_zero, List.set_cons_succ]
  have kd : y4.cell? ⟨b, 8194, none⟩ = some (.int .u64 ((0 : Nat) : Int)) := HM4.out.reg (p := 2) (by decide)
  have fd := HM4.out.fz 8194
  have HM4 : Hid (IsMac (y4.setCell ⟨b, 8194, none⟩ (.int .u64 (v : Int))) b (setR (setR (loaded 3 X) 1 base) 2 v)) := Lib.hid (HM4.out.setReg (d := 2) (by decide) v)
  have HB4 : Hid (Below w.heap.size w (y4.setCell ⟨b, 8194, none⟩ (.int .u64 (v : Int)))) := Lib.hid (HB4.out.setCell HB.out.2 _)
  refine oz_z rfl (by go_simp) fun K hK => ?_
  go_simp
  refine hK _ _ ?_
  clear hK K kd fd
  refine oz_done (NoPanic.normal ?_)
  generalize y4.setCell ⟨b, 8194, none⟩ (.int .u64 (v : Int)) = y4 at *
  have HLM := Lib.hid (loadMac HM4.out)
  have z9 := zeroMac y4
  have HPQ : Hid (IsMac (y4.alloc (.cells (tab 8211 (mc (setR (setR (loaded 3 X) 1 base) 2 v))) 87)) y4.heap.size (setR (setR (loaded 3 X) 1 base) 2 v) ∧ IsMac (y4.alloc (.cells (tab 8211 (mc (setR (setR (loaded 3 X) 1 base) 2 v))) 87)) b (setR (setR (loaded 3 X) 1 base) 2 v) ∧ Below w.heap.size w (y4.alloc (.cells (tab 8211 (mc (setR (setR (loaded 3 X) 1 base) 2 v))) 87))) := Lib.hid ⟨IsTab.new y4 _ 8211 _, HM4.out.below ((Below.refl _ _).alloc (Nat.le_refl _) _), HB4.out.alloc HB4.out.size _⟩
  generalize hcm : tab 8211 (mc (setR (setR (loaded 3 X) 1 base) 2 v)) = cm at *
  generalize hzm : tab 8211 (mc m0) = zm at *
  have HZ : Hid (zm.size = 8211) := Lib.hid (by rw [← hzm, tab_size])
  have HCM := Lib.hid hcm
  clear hcm hzm
  go_upto_region 8 with (first
    | ((with_reducible refine wpList_loadE (P := Tryd.prog) (w := y4) (ty := 87) (x := .tmp 44) (p := .pointer (some ⟨b, 0, none⟩)) (v := .agg cm) ?_ ?_ ?_ HLM.out ?_); (· exact rfl); (· exact rfl); (· exact rfl))
    | ((with_reducible refine wpList_store_row (P := Tryd.prog) (w := y4.alloc (.cells zm 87)) ?_ 87 (.tmp 9) (.tmp 45) ?_ y4.heap.size cm ?_ ?_ 87 zm (heap_alloc_last y4 _) ?_ ?_ ?_ ?_); (· exact rfl); (· exact rfl); (· exact rfl); (· exact rfl); (· rw [← HCM.out]; exact infM _); (· rw [← HCM.out, HZ.out, tab_size]); (· rw [← HCM.out]; exact one_mc _); rw [World.setRow_alloc_new]; simp only [Act.put]))
  have HQB : Hid (b < y4.heap.size ∧ w.heap.size ≤ y4.heap.size) := Lib.hid ⟨HM4.out.lt, HB4.out.size⟩
  clear z9 HLM HZ HCM HM4 HB4
  generalize y4.heap.size = q at *
  generalize y4.alloc (.cells cm 87) = y5 at *
  have HFIN : Hid (accM (setR (setR (loaded 3 X) 1 base) 2 v) 28 0 2 p = (setM { (setR (setR (loaded 3 X) 1 base) 2 v) with pc := 1 } p v)) := Lib.hid (by
    unfold accM
    have := HTO.out.1; rw [if_neg (by omega)]; rfl)
  have HS := Lib.hid (Step_walk y5 b s (fun w' => IsMac w' b (setM { (setR (setR (loaded 3 X) 1 base) 2 v) with pc := 1 } p v) ∧ Kept (fun k => k = b) y5 w') (by
    have h := step_acc y5 b s (setR (setR (loaded 3 X) 1 base) 2 v) (X 0) ⟨HPQ.out.2.1, ok_setR (ok_setR (ok_loaded 3 X HWA.out) 1 base HX.out.1) 2 v HX.out.2, rfl, (show 0 < 8192 by decide), rfl, HW0.out.ok⟩ (.inr HW0.out.op) p (by rw [HW0.out.a, HW0.out.n]; exact HP.out)
    rw [HW0.out.op, HW0.out.d, HW0.out.b, HFIN.out] at h
    exact h))
  go_upto_region 9 with (fail)
  rw [HP.out]
  go_upto_region 12 with (go_at_call 36; (with_reducible refine HS.out.mono ?_); rintro e y6 ⟨he, hm, hk⟩; obtain rfl : e = _ := he; have HM6 := Lib.hid hm; have HQ6 := Lib.hid (HPQ.out.1.kept hk (by have := HQB.out.1; omega)); have HB6 : Hid (Below w.heap.size w y6) := Lib.hid (Wt.below_of HPQ.out.2.2 hk fun j _ hj => by rw [hj]; exact HB.out.2); clear hm hk HS)
  clear HPQ
  go_upto_region 15 with (fail)
  have hpi : (p : Int) < 8192 := by have := HTO.out.1; omega
  have k1 := HQ6.out.pc
  have f1 := HQ6.out.fz 8208
  have HQ7 : Hid (IsMac (y6.setCell ⟨q, 8208, none⟩ (.int .u64 1)) q { (setR (setR (loaded 3 X) 1 base) 2 v) with pc := 1 }) := Lib.hid (HQ6.out.setPc 1)
  have k2 := HQ7.out.mem HTO.out.1
  have f2 := HQ7.out.fz p
  have k3 := HQ6.out.mem HTO.out.1
  have f3 := HQ6.out.fz p
  have HQ8 : Hid (IsMac ((y6.setCell ⟨q, 8208, none⟩ (.int .u64 1)).setCell ⟨q, p, none⟩ (.int .u64 (v : Int))) q (setM { (setR (setR (loaded 3 X) 1 base) 2 v) with pc := 1 } p v)) := Lib.hid (HQ7.out.setMem HTO.out.1 v)
  have HM8 := Lib.hid (HM6.out.kept (kept_set (S := fun k => k = q) (kept_set (S := fun k => k = q) (Kept.refl _ y6) q 8208 rfl (.int .u64 1)) q p rfl (.int .u64 (v : Int))) (by have := HQB.out.1; omega))
  have HB8 : Hid (Below w.heap.size w ((y6.setCell ⟨q, 8208, none⟩ (.int .u64 1)).setCell ⟨q, p, none⟩ (.int .u64 (v : Int)))) := Lib.hid ((HB6.out.setCell HQB.out.2 _).setCell HQB.out.2 _)
  go_upto_region 16 with (fail)
  clear k1 f1 k2 f2 k3 f3
  generalize ((y6.setCell ⟨q, 8208, none⟩ (.int .u64 1)).setCell ⟨q, p, none⟩ (.int .u64 (v : Int))) = y8 at *
  refine wp_region_og (fun z : World => y8.drew = z) (.take 0 (.take 1 (.take 2 (.take 3 (.take 4 .done))))) (by kernel_rfl) (by kernel_rfl) rfl ?_
  have HB9 := Lib.hid HB8.out.drew
  have HM9 : Hid (IsMac y8.drew b (setM { (setR (setR (loaded 3 X) 1 base) 2 v) with pc := 1 } p v)) := Lib.hid (HM8.out.kept (Wt.kept_drew y8) id)
  have HQ9 : Hid (IsMac y8.drew q (setM { (setR (setR (loaded 3 X) 1 base) 2 v) with pc := 1 } p v)) := Lib.hid (HQ8.out.kept (Wt.kept_drew y8) id)
  have HE := Lib.hid (fun z : World => neqM (setM { (setR (setR (loaded 3 X) 1 base) 2 v) with pc := 1 } p v) z)
  have HLB := Lib.hid (loadMac HM9.out)
  have HLQ := Lib.hid (loadMac HQ9.out)
  generalize tab 8211 (mc (setM { (setR (setR (loaded 3 X) 1 base) 2 v) with pc := 1 } p v)) = cf at *
  generalize y8.drew = y9 at *
  refine og_tk (some 69) (.pointer (some ⟨b, 0, none⟩)) rfl rfl (by go_simp) (fun _ _ => by simp [execOp, go_sem]) ?_
  simp only [Act.put, List.setIfInBounds_toArray, List.set_cons_zero, List.set_cons_succ]
  refine og_tk (some 70) (.pointer (some ⟨b, 0, none⟩)) rfl rfl (by go_simp) (fun _ _ => by simp [execOp, go_sem]) ?_
  simp only [Act.put, List.setIfInBounds_toArray, List.set_cons_zero, List.set_cons_succ]
  refine og_ld (some 71) 87 (.tmp 70) (.pointer (some ⟨b, 0, none⟩)) (.agg cf) rfl rfl (by go_simp) rfl rfl (fun y hy => hy ▸ HLB.out) ?_
  simp only [Act.put, List.setIfInBounds_toArray, List.set_cons_zero, List.set_cons_succ]
  refine og_ld (some 72) 87 (.tmp 9) (.pointer (some ⟨q, 0, none⟩)) (.agg cf) rfl rfl (by go_simp) rfl rfl (fun y hy => hy ▸ HLQ.out) ?_
  simp only [Act.put, List.setIfInBounds_toArray, List.set_cons_zero, List.set_cons_succ]
  refine og_neM (some 73) (.tmp 71) (.tmp 72) cf cf (.bool false) rfl rfl (by go_simp) rfl rfl rfl (fun z _ => HE.out z) ?_
  simp only [Act.put, List.setIfInBounds_toArray, List.set_cons_zero, List.set_cons_succ]
  refine og_done (NoPanic.normal ?_)
  go_wp2_with (fail)
  exact bodyPost_ret (v := .bool true) (by simp [results, Tryd.results8, go_sem]) rfl ⟨rfl, HB9.out⟩
set_option maxHeartbeats 4000000 in
set_option maxRecDepth 100000 in
theorem vs_run (n : Int) (base v p : Nat) (hx : base < 18446744073709551616) (hr : v < 18446744073709551616) (hp : IntKind.u64.wrap ((base : Int) + IntKind.u64.wrap (wrap64 (wrap32 n))) = p) (hto : p < 8192 ∧ 3 ≤ p) (w : World) (hT : Laid.KTab w) :
    Calls Tryd.prog 8 #[.int .u64 base, .int .i64 n, .int .u64 v] w fun e w' => e = .returned (.bool true) ∧ Below w.heap.size w w' := by
  have HN := Lib.hid (i32_in n)
  have HX := Lib.hid (And.intro hx hr)
  have HP := Lib.hid hp
  have HT := Lib.hid hT
  have t1 : decide (8192 ≤ (p : Int)) = false := by simp; omega
  have t2 : decide ((p : Int) < 3) = false := by simp; omega
  have HTO := Lib.hid hto
  clear hto
  clear hx hr hp hT
  have HA : Hid (Below w.heap.size w (w.alloc (.cells #[.int .i64 28, .int .i64 0, .int .i64 1, .int .i64 2, .int .i64 0, .int .i64 (wrap64 (wrap32 n)), .int .u64 0, .int .i64 27, .int .i64 3, .int .i64 1, .int .i64 0, .int .i64 0, .int .i64 (wrap64 (wrap32 n)), .int .u64 0, .int .i64 0, .int .i64 0, .int .i64 3, .int .i64 0, .int .i64 0, .int .i64 0, .int .u64 0] 82)) ∧ (w.alloc (.cells #[.int .i64 28, .int .i64 0, .int .i64 1, .int .i64 2, .int .i64 0, .int .i64 (wrap64 (wrap32 n)), .int .u64 0, .int .i64 27, .int .i64 3, .int .i64 1, .int .i64 0, .int .i64 0, .int .i64 (wrap64 (wrap32 n)), .int .u64 0, .int .i64 0, .int .i64 0, .int .i64 3, .int .i64 0, .int .i64 0, .int .i64 0, .int .u64 0] 82)).heap.size = w.heap.size + 1) := Lib.hid ⟨(Below.refl _ _).alloc (Nat.le_refl _) _, by simp⟩
  have HC := Lib.hid (loadedOf_walk (w.alloc (.cells #[.int .i64 28, .int .i64 0, .int .i64 1, .int .i64 2, .int .i64 0, .int .i64 (wrap64 (wrap32 n)), .int .u64 0, .int .i64 27, .int .i64 3, .int .i64 1, .int .i64 0, .int .i64 0, .int .i64 (wrap64 (wrap32 n)), .int .u64 0, .int .i64 0, .int .i64 0, .int .i64 3, .int .i64 0, .int .i64 0, .int .i64 0, .int .u64 0] 82)) w.heap.size 0 3 3 (three (wrap64 (wrap32 n))) (isIns_three w (wrap64 (wrap32 n)) _) (by rw [HA.out.2]; omega) (by decide) (by decide))
  have HW0 : Hid (WordIs (wordOf (three (wrap64 (wrap32 n)) 0)) 28 0 1 2 0 (wrap64 (wrap32 n))) := Lib.hid (word_of 28 0 1 2 0 _ (by decide) (by decide) (by decide) (by decide) (by decide) HN.out)
  have HW1 : Hid (WordIs (wordOf (three (wrap64 (wrap32 n)) 1)) 27 3 1 0 0 (wrap64 (wrap32 n))) := Lib.hid (word_of 27 3 1 0 0 _ (by decide) (by decide) (by decide) (by decide) (by decide) HN.out)
  have HW2 : Hid (WordIs (wordOf (three (wrap64 (wrap32 n)) 2)) 0 0 3 0 0 0) := Lib.hid (word_of 0 0 3 0 0 0 (by decide) (by decide) (by decide) (by decide) (by decide) (by decide))
  have HWA : Hid (∀ i, wordOf (three (wrap64 (wrap32 n)) i) < 18446744073709551616) := Lib.hid (fun i => by
    rcases i with _ | _ | i
    · exact HW0.out.lt
    · exact HW1.out.lt
    · exact HW2.out.lt)
  generalize hX : (fun j => wordOf (three (wrap64 (wrap32 n)) j)) = X at *
  have e0 : wordOf (three (wrap64 (wrap32 n)) 0) = X 0 := congrFun hX 0
  have e1 : wordOf (three (wrap64 (wrap32 n)) 1) = X 1 := congrFun hX 1
  have e2 : wordOf (three (wrap64 (wrap32 n)) 2) = X 2 := congrFun hX 2
  have HWA : Hid (∀ i, X i < 18446744073709551616) := Lib.hid (fun i => by rw [← hX]; exact HWA.out i)
  rw [e0] at HW0
  rw [e1] at HW1
  rw [e2] at HW2
  clear e0 e1 e2 hX
  go_enter Tryd.func8, Tryd.ntmps8
  go_upto_region 3 with (go_at_call 34; (with_reducible refine HC.out.mono ?_); rintro e y ⟨b, he, hm, hb, hk⟩; obtain rfl : e = _ := he; have HM := Lib.hid hm; have HB : Hid (Below w.heap.size w y ∧ w.heap.size ≤ b) := Lib.hid ⟨bl HA.out.1 hk, Nat.le_trans (by rw [HA.out.2]; omega) hb⟩; clear hm hb hk HC)
  have hT1 := ktab_below HT.out HB.out.1
  have HN1 := Lib.hid (Wt.New_walk y hT1 (lowB_le' hT1))
  clear hT1 HA
  go_upto_region 4 with (go_at_call 13; (with_reducible refine HN1.out.mono ?_); rintro e y2 ⟨s, T, kb, fb, he, hst, hb, hx⟩; obtain rfl : e = _ := he; have HM2 := Lib.hid (HM.out.below hb); have HB2 : Hid (Below w.heap.size w y2) := Lib.hid (bl HB.out.1 hb); clear hst hb hx HN1)
  have hT2 := ktab_below HT.out HB2.out
  have HF := Lib.hid (fixed10_walk y2 hT2 (lowB_le' hT2))
  clear hT2 HM
  go_upto_region 6 with (go_at_call 35; (with_reducible refine HF.out.mono ?_); rintro e y3 ⟨he, hb⟩; obtain rfl : e = _ := he; have HM3 := Lib.hid (HM2.out.below hb); have HB3 : Hid (Below w.heap.size w y3) := Lib.hid (bl HB2.out hb); clear hb HF HM2)
  have HM3 := Lib.hid (HM3.out.kept (Wt.kept_drew y3) id)
  have HB3 := Lib.hid HB3.out.drew
  refine wp_region_oz (fun _ : World => True) 11 (.take 0 (.take 1 (.take 2 (.take 3 (.take 4 (.take 5 (.take 6 (.free 8 (.free 9 (.one 7 (.free 10 (.one 11 .done)))))))))))) (by kernel_rfl) (by kernel_rfl) trivial ?_
  generalize y3.drew = y3 at *
  refine oz_tk (some 33) (.pointer (some ⟨b, 0, none⟩)) rfl rfl (by go_simp) (fun _ _ => by simp [execOp, go_sem]) ?_
  simp only [Act.put, List.setIfInBounds_toArray, List.set_cons_zero, List.set_cons_succ]
  refine oz_tk (some 34) (.pointer (some ⟨b, 0, none⟩)) rfl rfl (by go_simp) (fun _ _ => by simp [execOp, go_sem]) ?_
  simp only [Act.put, List.setIfInBounds_toArray, List.set_cons_zero, List.set_cons_succ]
  refine oz_tk (some 35) (.int .u64 base) rfl rfl (by go_simp) (fun _ _ => by simp [execOp, go_sem]) ?_
  simp only [Act.put, List.setIfInBounds_toArray, List.set_cons_zero, List.set_cons_succ]
  refine oz_tk (some 36) (.int .u64 v) rfl rfl (by go_simp) (fun _ _ => by simp [execOp, go_sem]) ?_
  simp only [Act.put, List.setIfInBounds_toArray, List.set_cons_zero, List.set_cons_succ]
  refine oz_tk (some 37) (.pointer (some ⟨b, 0, none⟩)) rfl rfl (by go_simp) (fun _ _ => by simp [execOp, go_sem]) ?_
  simp only [Act.put, List.setIfInBounds_toArray, List.set_cons_zero, List.set_cons_succ]
  refine oz_tk (some 38) (.pointer (some ⟨b, 8192, none⟩)) rfl rfl (by go_simp) (fun _ _ => by simp [execOp, go_sem]) ?_
  simp only [Act.put, List.setIfInBounds_toArray, List.set_cons_zero, List.set_cons_succ]
  refine oz_tk (some 39) (.pointer (some ⟨b, 8193, none⟩)) rfl rfl (by go_simp) (fun _ _ => by simp [execOp, go_sem, Result.andThen, Tryd.underlying85]) ?_
  simp only [Act.put, List.setIfInBounds_toArray, List.set_cons_zero, List.set_cons_succ]
  refine oz_fr (some 40) (.pointer (some ⟨b, 0, none⟩)) rfl rfl (by go_simp) (fun _ => by simp [execOp, go_sem]) ?_
  simp only [Act.put, List.setIfInBounds_toArray, List.set_cons_zero, List.set_cons_succ]
  refine oz_fr (some 41) (.pointer (some ⟨b, 8192, none⟩)) rfl rfl (by go_simp) (fun _ => by simp [execOp, go_sem]) ?_
  simp only [Act.put, List.setIfInBounds_toArray, List.set_cons_zero, List.set_cons_succ]
  have kd : y3.cell? ⟨b, 8193, none⟩ = some (.int .u64 ((0 : Nat) : Int)) := HM3.out.reg (p := 1) (by decide)
  have fd := HM3.out.fz 8193
  have HM4 : Hid (IsMac (y3.setCell ⟨b, 8193, none⟩ (.int .u64 (base : Int))) b (setR (loaded 3 X) 1 base)) := Lib.hid (HM3.out.setReg (d := 1) (by decide) base)
  have HB4 : Hid (Below w.heap.size w (y3.setCell ⟨b, 8193, none⟩ (.int .u64 (base : Int)))) := Lib.hid (HB3.out.setCell HB.out.2 _)
  refine oz_f rfl (by go_simp) fun K hK => ?_
  go_simp
  refine hK _ _ trivial ?_
  clear hK K kd fd HM3 HB3
  generalize y3.setCell ⟨b, 8193, none⟩ (.int .u64 (base : Int)) = y4 at *
  refine oz_fr (some 42) (.pointer (some ⟨b, 8194, none⟩)) rfl rfl (by go_simp) (fun _ => by simp [execOp, go_sem, Result.andThen, Tryd.underlying85]) ?_
  simp only [Act.put, List.setIfInBounds_toArray, List.set_cons_zero, List.set_cons_succ]
  have kd : y4.cell? ⟨b, 8194, none⟩ = some (.int .u64 ((0 : Nat) : Int)) := HM4.out.reg (p := 2) (by decide)
  have fd := HM4.out.fz 8194
  have HM4 : Hid (IsMac (y4.setCell ⟨b, 8194, none⟩ (.int .u64 (v : Int))) b (setR (setR (loaded 3 X) 1 base) 2 v)) := Lib.hid (HM4.out.setReg (d := 2) (by decide) v)
  have HB4 : Hid (Below w.heap.size w (y4.setCell ⟨b, 8194, none⟩ (.int .u64 (v : Int)))) := Lib.hid (HB4.out.setCell HB.out.2 _)
  refine oz_z rfl (by go_simp) fun K hK => ?_
  go_simp
  refine hK _ _ ?_
  clear hK K kd fd
  refine oz_done (NoPanic.normal ?_)
  generalize y4.setCell ⟨b, 8194, none⟩ (.int .u64 (v : Int)) = y4 at *
  have HLM := Lib.hid (loadMac HM4.out)
  have z9 := zeroMac y4
  have HPQ : Hid (IsMac (y4.alloc (.cells (tab 8211 (mc (setR (setR (loaded 3 X) 1 base) 2 v))) 87)) y4.heap.size (setR (setR (loaded 3 X) 1 base) 2 v) ∧ IsMac (y4.alloc (.cells (tab 8211 (mc (setR (setR (loaded 3 X) 1 base) 2 v))) 87)) b (setR (setR (loaded 3 X) 1 base) 2 v) ∧ Below w.heap.size w (y4.alloc (.cells (tab 8211 (mc (setR (setR (loaded 3 X) 1 base) 2 v))) 87))) := Lib.hid ⟨IsTab.new y4 _ 8211 _, HM4.out.below ((Below.refl _ _).alloc (Nat.le_refl _) _), HB4.out.alloc HB4.out.size _⟩
  generalize hcm : tab 8211 (mc (setR (setR (loaded 3 X) 1 base) 2 v)) = cm at *
  generalize hzm : tab 8211 (mc m0) = zm at *
  have HZ : Hid (zm.size = 8211) := Lib.hid (by rw [← hzm, tab_size])
  have HCM := Lib.hid hcm
  clear hcm hzm
  go_upto_region 8 with (first
    | ((with_reducible refine wpList_loadE (P := Tryd.prog) (w := y4) (ty := 87) (x := .tmp 44) (p := .pointer (some ⟨b, 0, none⟩)) (v := .agg cm) ?_ ?_ ?_ HLM.out ?_); (· exact rfl); (· exact rfl); (· exact rfl))
    | ((with_reducible refine wpList_store_row (P := Tryd.prog) (w := y4.alloc (.cells zm 87)) ?_ 87 (.tmp 9) (.tmp 45) ?_ y4.heap.size cm ?_ ?_ 87 zm (heap_alloc_last y4 _) ?_ ?_ ?_ ?_); (· exact rfl); (· exact rfl); (· exact rfl); (· exact rfl); (· rw [← HCM.out]; exact infM _); (· rw [← HCM.out, HZ.out, tab_size]); (· rw [← HCM.out]; exact one_mc _); rw [World.setRow_alloc_new]; simp only [Act.put]))
  have HQB : Hid (b < y4.heap.size ∧ w.heap.size ≤ y4.heap.size) := Lib.hid ⟨HM4.out.lt, HB4.out.size⟩
  clear z9 HLM HZ HCM HM4 HB4
  generalize y4.heap.size = q at *
  generalize y4.alloc (.cells cm 87) = y5 at *
  have HFIN : Hid (accM (setR (setR (loaded 3 X) 1 base) 2 v) 28 0 2 p = (setM { (setR (setR (loaded 3 X) 1 base) 2 v) with pc := 1 } p v)) := Lib.hid (by
    unfold accM
    have := HTO.out.1; rw [if_neg (by omega)]; rfl)
  have HS := Lib.hid (Step_walk y5 b s (fun w' => IsMac w' b (setM { (setR (setR (loaded 3 X) 1 base) 2 v) with pc := 1 } p v) ∧ Kept (fun k => k = b) y5 w') (by
    have h := step_acc y5 b s (setR (setR (loaded 3 X) 1 base) 2 v) (X 0) ⟨HPQ.out.2.1, ok_setR (ok_setR (ok_loaded 3 X HWA.out) 1 base HX.out.1) 2 v HX.out.2, rfl, (show 0 < 8192 by decide), rfl, HW0.out.ok⟩ (.inr HW0.out.op) p (by rw [HW0.out.a, HW0.out.n]; exact HP.out)
    rw [HW0.out.op, HW0.out.d, HW0.out.b, HFIN.out] at h
    exact h))
  go_upto_region 9 with (fail)
  rw [HP.out]
  go_upto_region 12 with (go_at_call 36; (with_reducible refine HS.out.mono ?_); rintro e y6 ⟨he, hm, hk⟩; obtain rfl : e = _ := he; have HM6 := Lib.hid hm; have HQ6 := Lib.hid (HPQ.out.1.kept hk (by have := HQB.out.1; omega)); have HB6 : Hid (Below w.heap.size w y6) := Lib.hid (Wt.below_of HPQ.out.2.2 hk fun j _ hj => by rw [hj]; exact HB.out.2); clear hm hk HS)
  clear HPQ
  go_upto_region 15 with (fail)
  have hpi : (p : Int) < 8192 := by have := HTO.out.1; omega
  have k1 := HQ6.out.pc
  have f1 := HQ6.out.fz 8208
  have HQ7 : Hid (IsMac (y6.setCell ⟨q, 8208, none⟩ (.int .u64 1)) q { (setR (setR (loaded 3 X) 1 base) 2 v) with pc := 1 }) := Lib.hid (HQ6.out.setPc 1)
  have k2 := HQ7.out.mem HTO.out.1
  have f2 := HQ7.out.fz p
  have k3 := HQ6.out.mem HTO.out.1
  have f3 := HQ6.out.fz p
  have HQ8 : Hid (IsMac ((y6.setCell ⟨q, 8208, none⟩ (.int .u64 1)).setCell ⟨q, p, none⟩ (.int .u64 (v : Int))) q (setM { (setR (setR (loaded 3 X) 1 base) 2 v) with pc := 1 } p v)) := Lib.hid (HQ7.out.setMem HTO.out.1 v)
  have HM8 := Lib.hid (HM6.out.kept (kept_set (S := fun k => k = q) (kept_set (S := fun k => k = q) (Kept.refl _ y6) q 8208 rfl (.int .u64 1)) q p rfl (.int .u64 (v : Int))) (by have := HQB.out.1; omega))
  have HB8 : Hid (Below w.heap.size w ((y6.setCell ⟨q, 8208, none⟩ (.int .u64 1)).setCell ⟨q, p, none⟩ (.int .u64 (v : Int)))) := Lib.hid ((HB6.out.setCell HQB.out.2 _).setCell HQB.out.2 _)
  go_upto_region 16 with (fail)
  clear k1 f1 k2 f2 k3 f3
  generalize ((y6.setCell ⟨q, 8208, none⟩ (.int .u64 1)).setCell ⟨q, p, none⟩ (.int .u64 (v : Int))) = y8 at *
  refine wp_region_og (fun z : World => y8.drew = z) (.take 0 (.take 1 (.take 2 (.take 3 (.take 4 .done))))) (by kernel_rfl) (by kernel_rfl) rfl ?_
  have HB9 := Lib.hid HB8.out.drew
  have HM9 : Hid (IsMac y8.drew b (setM { (setR (setR (loaded 3 X) 1 base) 2 v) with pc := 1 } p v)) := Lib.hid (HM8.out.kept (Wt.kept_drew y8) id)
  have HQ9 : Hid (IsMac y8.drew q (setM { (setR (setR (loaded 3 X) 1 base) 2 v) with pc := 1 } p v)) := Lib.hid (HQ8.out.kept (Wt.kept_drew y8) id)
  have HE := Lib.hid (fun z : World => neqM (setM { (setR (setR (loaded 3 X) 1 base) 2 v) with pc := 1 } p v) z)
  have HLB := Lib.hid (loadMac HM9.out)
  have HLQ := Lib.hid (loadMac HQ9.out)
  generalize tab 8211 (mc (setM { (setR (setR (loaded 3 X) 1 base) 2 v) with pc := 1 } p v)) = cf at *
  generalize y8.drew = y9 at *
  refine og_tk (some 69) (.pointer (some ⟨b, 0, none⟩)) rfl rfl (by go_simp) (fun _ _ => by simp [execOp, go_sem]) ?_
  simp only [Act.put, List.setIfInBounds_toArray, List.set_cons_zero, List.set_cons_succ]
  refine og_tk (some 70) (.pointer (some ⟨b, 0, none⟩)) rfl rfl (by go_simp) (fun _ _ => by simp [execOp, go_sem]) ?_
  simp only [Act.put, List.setIfInBounds_toArray, List.set_cons_zero, List.set_cons_succ]
  refine og_ld (some 71) 87 (.tmp 70) (.pointer (some ⟨b, 0, none⟩)) (.agg cf) rfl rfl (by go_simp) rfl rfl (fun y hy => hy ▸ HLB.out) ?_
  simp only [Act.put, List.setIfInBounds_toArray, List.set_cons_zero, List.set_cons_succ]
  refine og_ld (some 72) 87 (.tmp 9) (.pointer (some ⟨q, 0, none⟩)) (.agg cf) rfl rfl (by go_simp) rfl rfl (fun y hy => hy ▸ HLQ.out) ?_
  simp only [Act.put, List.setIfInBounds_toArray, List.set_cons_zero, List.set_cons_succ]
  refine og_neM (some 73) (.tmp 71) (.tmp 72) cf cf (.bool false) rfl rfl (by go_simp) rfl rfl rfl (fun z _ => HE.out z) ?_
  simp only [Act.put, List.setIfInBounds_toArray, List.set_cons_zero, List.set_cons_succ]
  refine og_done (NoPanic.normal ?_)
  have hp1 : ¬ 1 = p := by have := HTO.out.2; omega
  have hp2 : ¬ 2 = p := by have := HTO.out.2; omega
  have hok : OkM (setM { (setR (setR (loaded 3 X) 1 base) 2 v) with pc := 1 } p v) := ok_setM (ok_pc (ok_setR (ok_setR (ok_loaded 3 X HWA.out) 1 base HX.out.1) 2 v HX.out.2) 1 (by decide)) p v HX.out.2
  have HR := Lib.hid (run2_walk b s (setM { (setR (setR (loaded 3 X) 1 base) 2 v) with pc := 1 } p v) { setR (setM { (setR (setR (loaded 3 X) 1 base) 2 v) with pc := 1 } p v) 3 v with pc := 2 } (stopM { { setR (setM { (setR (setR (loaded 3 X) 1 base) 2 v) with pc := 1 } p v) 3 v with pc := 2 } with pc := 3 } v) w y9 rfl rfl HB.out.2 (fun y h => by
      have h1 := step_acc y b s (setM { (setR (setR (loaded 3 X) 1 base) 2 v) with pc := 1 } p v) (X 1) ⟨h, hok, rfl, (show 1 < 8192 by decide), (show (if 1 = p then v else (loaded 3 X).mem 1) = X 1 by rw [if_neg hp1]; rfl), HW1.out.ok⟩ (.inl HW1.out.op) p (by rw [HW1.out.a, HW1.out.n]; exact HP.out)
      rw [HW1.out.op, HW1.out.d, HW1.out.b] at h1
      have e : accM (setM { (setR (setR (loaded 3 X) 1 base) 2 v) with pc := 1 } p v) 27 3 0 p = { setR (setM { (setR (setR (loaded 3 X) 1 base) 2 v) with pc := 1 } p v) 3 v with pc := 2 } := by
        unfold accM
        have := HTO.out.1
        rw [if_neg (by omega), if_pos rfl, show (setM { (setR (setR (loaded 3 X) 1 base) 2 v) with pc := 1 } p v).mem p = v from if_pos rfl]
        rfl
      rw [e] at h1
      exact h1) (fun y h => by
      have h1 := step_halt y b s { setR (setM { (setR (setR (loaded 3 X) 1 base) 2 v) with pc := 1 } p v) 3 v with pc := 2 } (X 2) ⟨h, ok_pc (ok_setR hok 3 v HX.out.2) 2 (by decide), rfl, (show 2 < 8192 by decide), (show (if 2 = p then v else (loaded 3 X).mem 2) = X 2 by rw [if_neg hp2]; rfl), HW2.out.ok⟩ HW2.out.op
      rw [HW2.out.a] at h1
      exact h1) HM9.out HB9.out)
  clear hok hp1 hp2
  have HH4 : Hid ((stopM { { setR (setM { (setR (setR (loaded 3 X) 1 base) 2 v) with pc := 1 } p v) 3 v with pc := 2 } with pc := 3 } v).halted = true ∧ (stopM { { setR (setM { (setR (setR (loaded 3 X) 1 base) 2 v) with pc := 1 } p v) 3 v with pc := 2 } with pc := 3 } v).exit = v) := Lib.hid ⟨rfl, rfl⟩
  generalize (stopM { { setR (setM { (setR (setR (loaded 3 X) 1 base) 2 v) with pc := 1 } p v) 3 v with pc := 2 } with pc := 3 } v) = M4 at *
  go_wp2_with (go_at_call 37; (with_reducible refine HR.out.mono ?_); rintro e y10 ⟨he, hm, hb⟩; obtain rfl : e = _ := he; have k1 : y10.cell? ⟨b, 8209, none⟩ = some (.bool true) := HH4.out.1 ▸ IsMac.halted hm; have k2 : y10.cell? ⟨b, 8210, none⟩ = some (.int .u64 (v : Int)) := HH4.out.2 ▸ IsMac.exit hm; have HB10 := Lib.hid hb; clear hm hb HR)
  exact bodyPost_ret (v := .bool true) (by simp [results, Tryd.results8, go_sem]) rfl ⟨rfl, HB10.out⟩
theorem vmStores_walk (base n v : Int) (w0 : (Lit.int .u64 base).wf = true) (w1 : (Lit.int .i64 n).wf = true) (w2 : (Lit.int .u64 v).wf = true) (w : World) (hT : Laid.KTab w) :
    Calls Tryd.prog 8 #[.int .u64 base, .int .i64 n, .int .u64 v] w fun e w' => e = .returned (.bool true) ∧ Below w.heap.size w w' := by
  have p0 : 0 ≤ base := (of_decide_eq_true (Bool.and_eq_true_iff.1 w0).1)
  have p1 : base ≤ 18446744073709551615 := (of_decide_eq_true (Bool.and_eq_true_iff.1 w0).2)
  have q0 : 0 ≤ v := (of_decide_eq_true (Bool.and_eq_true_iff.1 w2).1)
  have q1 : v ≤ 18446744073709551615 := (of_decide_eq_true (Bool.and_eq_true_iff.1 w2).2)
  obtain ⟨base, rfl⟩ := Int.eq_ofNat_of_zero_le p0
  obtain ⟨v, rfl⟩ := Int.eq_ofNat_of_zero_le q0
  have hx : base < 18446744073709551616 := by omega
  have hr : v < 18446744073709551616 := by omega
  have hp := wN_eq ((base : Int) + IntKind.u64.wrap (wrap64 (wrap32 n)))
  clear p0 p1 q0 q1 w0 w1 w2
  generalize wN ((base : Int) + IntKind.u64.wrap (wrap64 (wrap32 n))) = p at *
  rcases Nat.lt_or_ge p 8192 with h1 | h1
  · rcases Nat.lt_or_ge p 3 with h2 | h2
    · exact vs_low n base v p hx hr hp ⟨h1, h2⟩ w hT
    · exact vs_run n base v p hx hr hp ⟨h1, h2⟩ w hT
  · exact vs_far n base v p hx hr hp h1 w hT
end Vm
end Go.Proofs.YtdmffnjbholkkaaDoor
