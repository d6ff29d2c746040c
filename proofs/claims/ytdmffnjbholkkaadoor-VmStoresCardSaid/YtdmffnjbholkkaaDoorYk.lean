/-
  vm: jumps; loadedOf. Written by genYk.py. Own work.
-/
import Derived.Test.YtdmffnjbholkkaaDoorYj
namespace Go.Proofs.YtdmffnjbholkkaaDoor
open Go.RowKit
set_option linter.unusedVariables false
set_option linter.unusedSimpArgs false
namespace Vm
open Kc
theorem loaded_cong {n : Nat} {f g : Nat → Nat} (h : ∀ j, j < n → f j = g j) : loaded n f = loaded n g := by
  unfold loaded
  congr 1
  funext i
  split
  · rename_i hi; exact h i hi
  · rfl
theorem loadedOf_walk (w : World) (qb o n c : Nat) (f : Nat → Ins) (h : IsIns w qb o n f) (hlt : qb < w.heap.size) (h0 : 0 < n) (hn : n ≤ 8192) :
    Calls Tryd.prog 34 #[.slice (some ⟨qb, o, none⟩) n c] w fun e w' => ∃ b, e = .returned (.pointer (some ⟨b, 0, none⟩)) ∧ IsMac w' b (loaded n fun j => wordOf (f j)) ∧ w.heap.size ≤ b ∧ Below w.heap.size w w' := by
  have HC := Lib.hid (words_walk w qb o n c f h hlt hn)
  have HN := Lib.hid (And.intro h0 hn)
  clear h hlt h0 hn
  go_enter Tryd.func34, Tryd.ntmps34
  go_wp2_with (first
    | (go_at_call 40; (with_reducible refine HC.out.mono ?_); rintro e y ⟨V, he, hw⟩; obtain rfl : e = _ := he; obtain ⟨g, cap, rfl, hs⟩ := ws_of (n := n) ((List.range n).map fun i => wordOf (f i)) (by simp) (by rw [List.map_map]; exact hw.row) HN.out.1; have HB := Lib.hid hw.below; have HL := Lib.hid (load_walk y g 0 n cap _ hs HN.out.2); clear hw hs HC)
    | (go_at_call 39; (with_reducible refine HL.out.mono ?_); rintro e y2 ⟨he, hm, hb⟩; obtain rfl : e = _ := he; have HM := Lib.hid hm; have HB2 := Lib.hid hb; clear hm hb HL))
  refine bodyPost_ret (v := .pointer (some ⟨y.heap.size, 0, none⟩)) (by simp [results, Tryd.results34, go_sem]) rfl ⟨y.heap.size, rfl, ?_, HB.out.size, bl HB.out HB2.out⟩
  have e : loaded n (fun j => wordOf (f j)) = loaded n fun j => ((List.range n).map fun i => wordOf (f i)).getD j 0 := loaded_cong fun j hj => by simp [hj]
  rw [e]
  exact HM.out
theorem stop_wrong (w : World) (b : Nat) (M : Mac) (h : IsMac w b M) :
    Calls Tryd.prog 78 #[.pointer (some ⟨b, 0, none⟩), .int .u64 18446744073709551614] w fun e w' => e = .returned (.tuple #[]) ∧ IsMac w' b (stopM M 18446744073709551614) ∧ Kept (fun k => k = b) w w' := stop_walk w b 18446744073709551614 M h
/-- A jump, plain. -/
def jumpM (M : Mac) (op d a to : Nat) : Mac :=
  if (op = 30 ∧ M.reg a ≠ 0) ∨ (op = 31 ∧ M.reg a = 0) then { M with pc := M.pc + 1 }
  else if 8192 ≤ (if op = 33 then M.reg a else to) then stopM M 18446744073709551614
  else { (if op = 32 then setR M d (M.pc + 1) else M) with pc := (if op = 33 then M.reg a else to) }
set_option maxHeartbeats 1000000 in
set_option maxRecDepth 100000 in
theorem jump29_far (w : World) (b d a to : Nat) (M : Mac) (h : IsMac w b M) (hd : d < 16) (ha : a < 16) (hpc : M.pc < 8192) (hto : 8192 ≤ to) :
    Calls Tryd.prog 81 #[.pointer (some ⟨b, 0, none⟩), .int .i64 29, .int .i64 d, .int .i64 a, .int .u64 to] w fun e w' => e = .returned (.tuple #[]) ∧ IsMac w' b (stopM M 18446744073709551614) ∧ Kept (fun k => k = b) w w' := by
  have hai : (a : Int) < 16 := by omega
  have hdi : (d : Int) < 16 := by omega
  have ka := h.reg ha
  have t1 : decide (8192 ≤ (to : Int)) = true := by simp; omega
  clear hto ha hd
  have HC := Lib.hid (stop_wrong w b M h)
  clear h hpc
  go_enter Tryd.func81, Tryd.ntmps81
  go_wp2_with (go_at_call 78; (with_reducible refine HC.out.mono ?_); rintro e y2 ⟨he, hm, hk⟩; obtain rfl : e = _ := he; have HM2 := Lib.hid hm; have HK2 := Lib.hid hk; clear hm hk)
  exact bodyPost_ret (v := .tuple #[]) (by simp [results, Tryd.results81, go_sem]) rfl ⟨rfl, HM2.out, HK2.out⟩
set_option maxHeartbeats 1000000 in
set_option maxRecDepth 100000 in
theorem jump29 (w : World) (b d a to : Nat) (M : Mac) (h : IsMac w b M) (hd : d < 16) (ha : a < 16) (hpc : M.pc < 8192) (hto : to < 8192) :
    Calls Tryd.prog 81 #[.pointer (some ⟨b, 0, none⟩), .int .i64 29, .int .i64 d, .int .i64 a, .int .u64 to] w fun e w' => e = .returned (.tuple #[]) ∧ IsMac w' b ({ M with pc := to }) ∧ Kept (fun k => k = b) w w' := by
  have hai : (a : Int) < 16 := by omega
  have hdi : (d : Int) < 16 := by omega
  have ka := h.reg ha
  have t1 : decide (8192 ≤ (to : Int)) = false := by simp; omega
  clear hto ha hd
  have kp := h.pc
  have fp := h.fz 8208
  have H9 := Lib.hid (h.setPc (to))
  have K9 := Lib.hid (kept_set (S := fun k => k = b) (Kept.refl _ w) b 8208 rfl (.int .u64 ((to : Nat) : Int)))
  clear h hpc
  go_enter Tryd.func81, Tryd.ntmps81
  go_wp2_with (fail)
  exact bodyPost_end (v := .tuple #[]) (by simp [results, Tryd.results81, go_sem]) rfl ⟨rfl, H9.out, K9.out⟩
set_option maxHeartbeats 1000000 in
set_option maxRecDepth 100000 in
theorem jump30_no (w : World) (b d a to : Nat) (M : Mac) (h : IsMac w b M) (hd : d < 16) (ha : a < 16) (hpc : M.pc < 8192) (hv : M.reg a ≠ 0) :
    Calls Tryd.prog 81 #[.pointer (some ⟨b, 0, none⟩), .int .i64 30, .int .i64 d, .int .i64 a, .int .u64 to] w fun e w' => e = .returned (.tuple #[]) ∧ IsMac w' b ({ M with pc := M.pc + 1 }) ∧ Kept (fun k => k = b) w w' := by
  have hai : (a : Int) < 16 := by omega
  have hdi : (d : Int) < 16 := by omega
  have ka := h.reg ha
  have t2 : ((M.reg a : Int) == 0) = false := by simp; omega
  clear hv
  clear ha hd
  have kp := h.pc
  have fp := h.fz 8208
  have HW : Hid (IntKind.u64.wrap ((M.pc : Int) + 1) = ((M.pc + 1 : Nat) : Int)) := Lib.hid (wrap_pc hpc)
  have H9 : Hid (IsMac (w.setCell ⟨b, 8208, none⟩ (.int .u64 (IntKind.u64.wrap ((M.pc : Int) + 1)))) b { M with pc := M.pc + 1 }) := Lib.hid (by rw [HW.out]; exact h.setPc (M.pc + 1))
  have K9 := Lib.hid (kept_set (S := fun k => k = b) (Kept.refl _ w) b 8208 rfl (.int .u64 (IntKind.u64.wrap ((M.pc : Int) + 1))))
  clear h hpc
  generalize hp : (M.pc : Int) = PC at *
  go_enter Tryd.func81, Tryd.ntmps81
  go_wp2_with (fail)
  subst hp
  exact bodyPost_ret (v := .tuple #[]) (by simp [results, Tryd.results81, go_sem]) rfl ⟨rfl, H9.out, K9.out⟩
set_option maxHeartbeats 1000000 in
set_option maxRecDepth 100000 in
theorem jump30_far (w : World) (b d a to : Nat) (M : Mac) (h : IsMac w b M) (hd : d < 16) (ha : a < 16) (hpc : M.pc < 8192) (hv : M.reg a = 0) (hto : 8192 ≤ to) :
    Calls Tryd.prog 81 #[.pointer (some ⟨b, 0, none⟩), .int .i64 30, .int .i64 d, .int .i64 a, .int .u64 to] w fun e w' => e = .returned (.tuple #[]) ∧ IsMac w' b (stopM M 18446744073709551614) ∧ Kept (fun k => k = b) w w' := by
  have hai : (a : Int) < 16 := by omega
  have hdi : (d : Int) < 16 := by omega
  have ka := h.reg ha
  have t2 : ((M.reg a : Int) == 0) = true := by simp; omega
  clear hv
  have t1 : decide (8192 ≤ (to : Int)) = true := by simp; omega
  clear hto ha hd
  have HC := Lib.hid (stop_wrong w b M h)
  clear h hpc
  go_enter Tryd.func81, Tryd.ntmps81
  go_wp2_with (go_at_call 78; (with_reducible refine HC.out.mono ?_); rintro e y2 ⟨he, hm, hk⟩; obtain rfl : e = _ := he; have HM2 := Lib.hid hm; have HK2 := Lib.hid hk; clear hm hk)
  exact bodyPost_ret (v := .tuple #[]) (by simp [results, Tryd.results81, go_sem]) rfl ⟨rfl, HM2.out, HK2.out⟩
set_option maxHeartbeats 1000000 in
set_option maxRecDepth 100000 in
theorem jump30 (w : World) (b d a to : Nat) (M : Mac) (h : IsMac w b M) (hd : d < 16) (ha : a < 16) (hpc : M.pc < 8192) (hv : M.reg a = 0) (hto : to < 8192) :
    Calls Tryd.prog 81 #[.pointer (some ⟨b, 0, none⟩), .int .i64 30, .int .i64 d, .int .i64 a, .int .u64 to] w fun e w' => e = .returned (.tuple #[]) ∧ IsMac w' b ({ M with pc := to }) ∧ Kept (fun k => k = b) w w' := by
  have hai : (a : Int) < 16 := by omega
  have hdi : (d : Int) < 16 := by omega
  have ka := h.reg ha
  have t2 : ((M.reg a : Int) == 0) = true := by simp; omega
  clear hv
  have t1 : decide (8192 ≤ (to : Int)) = false := by simp; omega
  clear hto ha hd
  have kp := h.pc
  have fp := h.fz 8208
  have H9 := Lib.hid (h.setPc (to))
  have K9 := Lib.hid (kept_set (S := fun k => k = b) (Kept.refl _ w) b 8208 rfl (.int .u64 ((to : Nat) : Int)))
  clear h hpc
  go_enter Tryd.func81, Tryd.ntmps81
  go_wp2_with (fail)
  exact bodyPost_end (v := .tuple #[]) (by simp [results, Tryd.results81, go_sem]) rfl ⟨rfl, H9.out, K9.out⟩
set_option maxHeartbeats 1000000 in
set_option maxRecDepth 100000 in
theorem jump31_no (w : World) (b d a to : Nat) (M : Mac) (h : IsMac w b M) (hd : d < 16) (ha : a < 16) (hpc : M.pc < 8192) (hv : M.reg a = 0) :
    Calls Tryd.prog 81 #[.pointer (some ⟨b, 0, none⟩), .int .i64 31, .int .i64 d, .int .i64 a, .int .u64 to] w fun e w' => e = .returned (.tuple #[]) ∧ IsMac w' b ({ M with pc := M.pc + 1 }) ∧ Kept (fun k => k = b) w w' := by
  have hai : (a : Int) < 16 := by omega
  have hdi : (d : Int) < 16 := by omega
  have ka := h.reg ha
  have t2 : ((M.reg a : Int) == 0) = true := by simp; omega
  clear hv
  clear ha hd
  have kp := h.pc
  have fp := h.fz 8208
  have HW : Hid (IntKind.u64.wrap ((M.pc : Int) + 1) = ((M.pc + 1 : Nat) : Int)) := Lib.hid (wrap_pc hpc)
  have H9 : Hid (IsMac (w.setCell ⟨b, 8208, none⟩ (.int .u64 (IntKind.u64.wrap ((M.pc : Int) + 1)))) b { M with pc := M.pc + 1 }) := Lib.hid (by rw [HW.out]; exact h.setPc (M.pc + 1))
  have K9 := Lib.hid (kept_set (S := fun k => k = b) (Kept.refl _ w) b 8208 rfl (.int .u64 (IntKind.u64.wrap ((M.pc : Int) + 1))))
  clear h hpc
  generalize hp : (M.pc : Int) = PC at *
  go_enter Tryd.func81, Tryd.ntmps81
  go_wp2_with (fail)
  subst hp
  exact bodyPost_ret (v := .tuple #[]) (by simp [results, Tryd.results81, go_sem]) rfl ⟨rfl, H9.out, K9.out⟩
set_option maxHeartbeats 1000000 in
set_option maxRecDepth 100000 in
theorem jump31_far (w : World) (b d a to : Nat) (M : Mac) (h : IsMac w b M) (hd : d < 16) (ha : a < 16) (hpc : M.pc < 8192) (hv : M.reg a ≠ 0) (hto : 8192 ≤ to) :
    Calls Tryd.prog 81 #[.pointer (some ⟨b, 0, none⟩), .int .i64 31, .int .i64 d, .int .i64 a, .int .u64 to] w fun e w' => e = .returned (.tuple #[]) ∧ IsMac w' b (stopM M 18446744073709551614) ∧ Kept (fun k => k = b) w w' := by
  have hai : (a : Int) < 16 := by omega
  have hdi : (d : Int) < 16 := by omega
  have ka := h.reg ha
  have t2 : ((M.reg a : Int) == 0) = false := by simp; omega
  clear hv
  have t1 : decide (8192 ≤ (to : Int)) = true := by simp; omega
  clear hto ha hd
  have HC := Lib.hid (stop_wrong w b M h)
  clear h hpc
  go_enter Tryd.func81, Tryd.ntmps81
  go_wp2_with (go_at_call 78; (with_reducible refine HC.out.mono ?_); rintro e y2 ⟨he, hm, hk⟩; obtain rfl : e = _ := he; have HM2 := Lib.hid hm; have HK2 := Lib.hid hk; clear hm hk)
  exact bodyPost_ret (v := .tuple #[]) (by simp [results, Tryd.results81, go_sem]) rfl ⟨rfl, HM2.out, HK2.out⟩
set_option maxHeartbeats 1000000 in
set_option maxRecDepth 100000 in
theorem jump31 (w : World) (b d a to : Nat) (M : Mac) (h : IsMac w b M) (hd : d < 16) (ha : a < 16) (hpc : M.pc < 8192) (hv : M.reg a ≠ 0) (hto : to < 8192) :
    Calls Tryd.prog 81 #[.pointer (some ⟨b, 0, none⟩), .int .i64 31, .int .i64 d, .int .i64 a, .int .u64 to] w fun e w' => e = .returned (.tuple #[]) ∧ IsMac w' b ({ M with pc := to }) ∧ Kept (fun k => k = b) w w' := by
  have hai : (a : Int) < 16 := by omega
  have hdi : (d : Int) < 16 := by omega
  have ka := h.reg ha
  have t2 : ((M.reg a : Int) == 0) = false := by simp; omega
  clear hv
  have t1 : decide (8192 ≤ (to : Int)) = false := by simp; omega
  clear hto ha hd
  have kp := h.pc
  have fp := h.fz 8208
  have H9 := Lib.hid (h.setPc (to))
  have K9 := Lib.hid (kept_set (S := fun k => k = b) (Kept.refl _ w) b 8208 rfl (.int .u64 ((to : Nat) : Int)))
  clear h hpc
  go_enter Tryd.func81, Tryd.ntmps81
  go_wp2_with (fail)
  exact bodyPost_end (v := .tuple #[]) (by simp [results, Tryd.results81, go_sem]) rfl ⟨rfl, H9.out, K9.out⟩
set_option maxHeartbeats 1000000 in
set_option maxRecDepth 100000 in
theorem jump33_far (w : World) (b d a to : Nat) (M : Mac) (h : IsMac w b M) (hd : d < 16) (ha : a < 16) (hpc : M.pc < 8192) (hto : 8192 ≤ M.reg a) :
    Calls Tryd.prog 81 #[.pointer (some ⟨b, 0, none⟩), .int .i64 33, .int .i64 d, .int .i64 a, .int .u64 to] w fun e w' => e = .returned (.tuple #[]) ∧ IsMac w' b (stopM M 18446744073709551614) ∧ Kept (fun k => k = b) w w' := by
  have hai : (a : Int) < 16 := by omega
  have hdi : (d : Int) < 16 := by omega
  have ka := h.reg ha
  have t1 : decide (8192 ≤ (M.reg a : Int)) = true := by simp; omega
  clear hto ha hd
  have HC := Lib.hid (stop_wrong w b M h)
  clear h hpc
  go_enter Tryd.func81, Tryd.ntmps81
  go_wp2_with (go_at_call 78; (with_reducible refine HC.out.mono ?_); rintro e y2 ⟨he, hm, hk⟩; obtain rfl : e = _ := he; have HM2 := Lib.hid hm; have HK2 := Lib.hid hk; clear hm hk)
  exact bodyPost_ret (v := .tuple #[]) (by simp [results, Tryd.results81, go_sem]) rfl ⟨rfl, HM2.out, HK2.out⟩
set_option maxHeartbeats 1000000 in
set_option maxRecDepth 100000 in
theorem jump33 (w : World) (b d a to : Nat) (M : Mac) (h : IsMac w b M) (hd : d < 16) (ha : a < 16) (hpc : M.pc < 8192) (hto : M.reg a < 8192) :
    Calls Tryd.prog 81 #[.pointer (some ⟨b, 0, none⟩), .int .i64 33, .int .i64 d, .int .i64 a, .int .u64 to] w fun e w' => e = .returned (.tuple #[]) ∧ IsMac w' b ({ M with pc := M.reg a }) ∧ Kept (fun k => k = b) w w' := by
  have hai : (a : Int) < 16 := by omega
  have hdi : (d : Int) < 16 := by omega
  have ka := h.reg ha
  have t1 : decide (8192 ≤ (M.reg a : Int)) = false := by simp; omega
  clear hto ha hd
  have kp := h.pc
  have fp := h.fz 8208
  have H9 := Lib.hid (h.setPc (M.reg a))
  have K9 := Lib.hid (kept_set (S := fun k => k = b) (Kept.refl _ w) b 8208 rfl (.int .u64 ((M.reg a : Nat) : Int)))
  clear h hpc
  go_enter Tryd.func81, Tryd.ntmps81
  go_wp2_with (fail)
  exact bodyPost_end (v := .tuple #[]) (by simp [results, Tryd.results81, go_sem]) rfl ⟨rfl, H9.out, K9.out⟩
set_option maxHeartbeats 1000000 in
set_option maxRecDepth 100000 in
theorem jump32_far (w : World) (b d a to : Nat) (M : Mac) (h : IsMac w b M) (hd : d < 16) (ha : a < 16) (hpc : M.pc < 8192) (hto : 8192 ≤ to) :
    Calls Tryd.prog 81 #[.pointer (some ⟨b, 0, none⟩), .int .i64 32, .int .i64 d, .int .i64 a, .int .u64 to] w fun e w' => e = .returned (.tuple #[]) ∧ IsMac w' b (stopM M 18446744073709551614) ∧ Kept (fun k => k = b) w w' := by
  have hai : (a : Int) < 16 := by omega
  have hdi : (d : Int) < 16 := by omega
  have ka := h.reg ha
  have t1 : decide (8192 ≤ (to : Int)) = true := by simp; omega
  clear hto ha hd
  have HC := Lib.hid (stop_wrong w b M h)
  clear h hpc
  go_enter Tryd.func81, Tryd.ntmps81
  go_wp2_with (go_at_call 78; (with_reducible refine HC.out.mono ?_); rintro e y2 ⟨he, hm, hk⟩; obtain rfl : e = _ := he; have HM2 := Lib.hid hm; have HK2 := Lib.hid hk; clear hm hk)
  exact bodyPost_ret (v := .tuple #[]) (by simp [results, Tryd.results81, go_sem]) rfl ⟨rfl, HM2.out, HK2.out⟩
set_option maxHeartbeats 1000000 in
set_option maxRecDepth 100000 in
theorem jump32 (w : World) (b d a to : Nat) (M : Mac) (h : IsMac w b M) (hd : d < 16) (ha : a < 16) (hpc : M.pc < 8192) (hto : to < 8192) :
    Calls Tryd.prog 81 #[.pointer (some ⟨b, 0, none⟩), .int .i64 32, .int .i64 d, .int .i64 a, .int .u64 to] w fun e w' => e = .returned (.tuple #[]) ∧ IsMac w' b ({ setR M d (M.pc + 1) with pc := to }) ∧ Kept (fun k => k = b) w w' := by
  have hai : (a : Int) < 16 := by omega
  have hdi : (d : Int) < 16 := by omega
  have ka := h.reg ha
  have t1 : decide (8192 ≤ (to : Int)) = false := by simp; omega
  have HDI := Lib.hid hd
  clear hto ha hd hdi
  have HH := Lib.hid h
  have HPC := Lib.hid hpc
  have HW : Hid (IntKind.u64.wrap ((M.pc : Int) + 1) = ((M.pc + 1 : Nat) : Int)) := Lib.hid (wrap_pc hpc)
  clear h hpc
  go_enter Tryd.func81, Tryd.ntmps81
  go_upto_region 11 with (fail)
  have HZ := Lib.hid (HH.out.kept (Wt.kept_drew w) id)
  have HS : Hid (IsMac (w.drew.setCell ⟨b, 8192 + d, none⟩ (.int .u64 (IntKind.u64.wrap ((M.pc : Int) + 1)))) b (setR M d (M.pc + 1))) := Lib.hid (by rw [HW.out]; exact HZ.out.setReg HDI.out _)
  have HK : Hid (Kept (fun k => k = b) w (w.drew.setCell ⟨b, 8192 + d, none⟩ (.int .u64 (IntKind.u64.wrap ((M.pc : Int) + 1))))) := Lib.hid (kept_set (S := fun k => k = b) (Kept.drew (Kept.refl _ w)) b _ rfl _)
  refine wp_region_oz (fun z : World => w.drew = z) 10 (.take 0 (.take 1 (.take 2 (.take 3 (.take 4 (.take 5 (.take 6 (.free 7 (.free 8 (.free 9 (.one 10 .done))))))))))) (by kernel_rfl) (by kernel_rfl) rfl ?_
  generalize w.drew = y0 at *
  refine oz_tk (some 42) (.pointer (some ⟨b, 0, none⟩)) rfl rfl (by go_simp) (fun _ _ => by simp [execOp, go_sem]) ?_
  simp only [Act.put, List.setIfInBounds_toArray, List.set_cons_zero, List.set_cons_succ]
  refine oz_tk (some 43) (.int .i64 d) rfl rfl (by go_simp) (fun _ _ => by simp [execOp, go_sem]) ?_
  simp only [Act.put, List.setIfInBounds_toArray, List.set_cons_zero, List.set_cons_succ]
  refine oz_tk (some 44) (.pointer (some ⟨b, 0, none⟩)) rfl rfl (by go_simp) (fun _ _ => by simp [execOp, go_sem]) ?_
  simp only [Act.put, List.setIfInBounds_toArray, List.set_cons_zero, List.set_cons_succ]
  refine oz_tk (some 45) (.pointer (some ⟨b, 0, none⟩)) rfl rfl (by go_simp) (fun _ _ => by simp [execOp, go_sem]) ?_
  simp only [Act.put, List.setIfInBounds_toArray, List.set_cons_zero, List.set_cons_succ]
  refine oz_tk (some 46) (.pointer (some ⟨b, 8208, none⟩)) rfl rfl (by go_simp) (fun _ _ => by simp [execOp, go_sem]) ?_
  simp only [Act.put, List.setIfInBounds_toArray, List.set_cons_zero, List.set_cons_succ]
  refine oz_ld (some 47) 78 (.tmp 46) (.pointer (some ⟨b, 8208, none⟩)) (.int .u64 (M.pc : Int)) rfl rfl (by go_simp) rfl rfl (fun y hy => by have h := hy ▸ HZ.out.pc; simp [Instr.loadAt, go_sem, h, Tryd.underlying78]) ?_
  simp only [Act.put, List.setIfInBounds_toArray, List.set_cons_zero, List.set_cons_succ]
  refine oz_tk (some 48) (.int .u64 (IntKind.u64.wrap ((M.pc : Int) + 1))) rfl rfl (by go_simp) (fun _ _ => by simp [execOp, go_sem]) ?_
  simp only [Act.put, List.setIfInBounds_toArray, List.set_cons_zero, List.set_cons_succ]
  refine oz_fr (some 49) (.pointer (some ⟨b, 0, none⟩)) rfl rfl (by go_simp) (fun _ => by simp [execOp, go_sem]) ?_
  simp only [Act.put, List.setIfInBounds_toArray, List.set_cons_zero, List.set_cons_succ]
  refine oz_fr (some 50) (.pointer (some ⟨b, 8192, none⟩)) rfl rfl (by go_simp) (fun _ => by simp [execOp, go_sem]) ?_
  simp only [Act.put, List.setIfInBounds_toArray, List.set_cons_zero, List.set_cons_succ]
  refine oz_fr (some 51) (.pointer (some ⟨b, (8192 + d), none⟩)) rfl rfl (by go_simp) (fun _ => by have h := ix16 b d HDI.out; simp [execOp, go_sem, h, Result.andThen]) ?_
  simp only [Act.put, List.setIfInBounds_toArray, List.set_cons_zero, List.set_cons_succ]
  have kd := HZ.out.reg HDI.out
  have fd := HZ.out.fz (8192 + d)
  refine oz_z rfl (by go_simp) fun K hK => ?_
  go_simp
  refine hK _ _ ?_
  clear hK K kd fd
  refine oz_done (NoPanic.normal ?_)
  generalize y0.setCell ⟨b, 8192 + d, none⟩ (.int .u64 (IntKind.u64.wrap ((M.pc : Int) + 1))) = y1 at *
  have kp := HS.out.pc
  have fp := HS.out.fz 8208
  have H9 := Lib.hid (HS.out.setPc to)
  have K9 := Lib.hid (kept_set (S := fun k => k = b) HK.out b 8208 rfl (.int .u64 (to : Int)))
  go_wp2_with (fail)
  exact bodyPost_end (v := .tuple #[]) (by simp [results, Tryd.results81, go_sem]) rfl ⟨rfl, H9.out, K9.out⟩
theorem jump_walk (w : World) (b op d a to : Nat) (M : Mac) (h : IsMac w b M) (hop : 29 ≤ op ∧ op ≤ 33) (hd : d < 16) (ha : a < 16) (hpc : M.pc < 8192) :
    Calls Tryd.prog 81 #[.pointer (some ⟨b, 0, none⟩), .int .i64 op, .int .i64 d, .int .i64 a, .int .u64 to] w fun e w' => e = .returned (.tuple #[]) ∧ IsMac w' b (jumpM M op d a to) ∧ Kept (fun k => k = b) w w' := by
  have ho : op = 29 ∨ op = 30 ∨ op = 31 ∨ op = 32 ∨ op = 33 := by omega
  clear hop
  rcases ho with rfl | rfl | rfl | rfl | rfl
  · by_cases hto : to < 8192
    · have e : jumpM M 29 d a to = { M with pc := to } := by unfold jumpM; rw [if_neg (by omega), if_neg (by simp; omega)]; rfl
      rw [e]; exact jump29 w b d a to M h hd ha hpc hto
    · have e : jumpM M 29 d a to = stopM M 18446744073709551614 := by unfold jumpM; rw [if_neg (by omega), if_pos (by simp; omega)]
      rw [e]; exact jump29_far w b d a to M h hd ha hpc (by omega)
  · by_cases hv : M.reg a = 0
    · by_cases hto : to < 8192
      · have e : jumpM M 30 d a to = { M with pc := to } := by unfold jumpM; rw [if_neg (by omega), if_neg (by simp; omega)]; rfl
        rw [e]; exact jump30 w b d a to M h hd ha hpc hv hto
      · have e : jumpM M 30 d a to = stopM M 18446744073709551614 := by unfold jumpM; rw [if_neg (by omega), if_pos (by simp; omega)]
        rw [e]; exact jump30_far w b d a to M h hd ha hpc hv (by omega)
    · have e : jumpM M 30 d a to = { M with pc := M.pc + 1 } := by unfold jumpM; rw [if_pos (.inl ⟨rfl, hv⟩)]
      rw [e]; exact jump30_no w b d a to M h hd ha hpc hv
  · by_cases hv : M.reg a = 0
    · have e : jumpM M 31 d a to = { M with pc := M.pc + 1 } := by unfold jumpM; rw [if_pos (.inr ⟨rfl, hv⟩)]
      rw [e]; exact jump31_no w b d a to M h hd ha hpc hv
    · by_cases hto : to < 8192
      · have e : jumpM M 31 d a to = { M with pc := to } := by unfold jumpM; rw [if_neg (by omega), if_neg (by simp; omega)]; rfl
        rw [e]; exact jump31 w b d a to M h hd ha hpc hv hto
      · have e : jumpM M 31 d a to = stopM M 18446744073709551614 := by unfold jumpM; rw [if_neg (by omega), if_pos (by simp; omega)]
        rw [e]; exact jump31_far w b d a to M h hd ha hpc hv (by omega)
  · by_cases hto : to < 8192
    · have e : jumpM M 32 d a to = { setR M d (M.pc + 1) with pc := to } := by unfold jumpM; rw [if_neg (by omega), if_neg (by simp; omega)]; rfl
      rw [e]; exact jump32 w b d a to M h hd ha hpc hto
    · have e : jumpM M 32 d a to = stopM M 18446744073709551614 := by unfold jumpM; rw [if_neg (by omega), if_pos (by simp; omega)]
      rw [e]; exact jump32_far w b d a to M h hd ha hpc (by omega)
  · by_cases hto : M.reg a < 8192
    · have e : jumpM M 33 d a to = { M with pc := M.reg a } := by unfold jumpM; rw [if_neg (by omega), if_neg (by simp; omega)]; rfl
      rw [e]; exact jump33 w b d a to M h hd ha hpc hto
    · have e : jumpM M 33 d a to = stopM M 18446744073709551614 := by unfold jumpM; rw [if_neg (by omega), if_pos (by simp; omega)]
      rw [e]; exact jump33_far w b d a to M h hd ha hpc (by omega)
end Vm
end Go.Proofs.YtdmffnjbholkkaaDoor
