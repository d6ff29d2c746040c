/-
  vm: a step. Written by genYf.py. Own work.
-/
import Derived.Test.YtdmffnjbholkkaaDoorYe
import Derived.Test.YtdmffnjbholkkaaDoorOz
namespace Go.Proofs.YtdmffnjbholkkaaDoor
open Go.RowKit
set_option linter.unusedVariables false
set_option linter.unusedSimpArgs false
namespace Vm
open Kc
theorem undMem : Tryd.prog.underlying 84 = some (.array 8192 78) := by kernel_rfl
theorem undReg : Tryd.prog.underlying 85 = some (.array 16 78) := by kernel_rfl
/-- What stands ahead of a step's switch. -/
structure Pre (w : World) (b : Nat) (M : Mac) (x : Nat) : Prop where
  mac : IsMac w b M
  ok : OkM M
  hh : M.halted = false
  pc : M.pc < 8192
  hx : M.mem M.pc = x
  pok : pOk x = true
/-- A number as a word. -/
def wN (z : Int) : Nat := (IntKind.u64.wrap z).toNat
theorem wN_eq (z : Int) : IntKind.u64.wrap z = ((wN z : Nat) : Int) := by
  unfold wN
  have : IntKind.u64.wrap z = z % 18446744073709551616 := by simp [IntKind.wrap, IntKind.bits, IntKind.signed]
  rw [this]; omega
theorem wN_lt (z : Int) : wN z < 18446744073709551616 := by
  unfold wN
  have : IntKind.u64.wrap z = z % 18446744073709551616 := by simp [IntKind.wrap, IntKind.bits, IntKind.signed]
  rw [this]; omega
theorem wrap_pc {p : Nat} (h : p < 8192) : IntKind.u64.wrap ((p : Int) + 1) = ((p + 1 : Nat) : Int) := by
  rw [IntWalk.u64_in _ (by omega)]; omega
theorem ix16 (b i : Nat) (hi : i < 16) (w : World) : (Instr.indexAt 85 (.pointer (some ⟨b, 8192, none⟩)) (.int .i64 i)).run Tryd.prog w = .ok (.pointer (some ⟨b, 8192 + i, none⟩)) w := by
  have h1 : (i : Int) < 16 := by omega
  simp [go_sem, h1, Tryd.underlying85]
theorem pD_lt (x : Nat) : pD x < 16 := Nat.mod_lt _ (by decide)
theorem pA_lt (x : Nat) : pA x < 16 := Nat.mod_lt _ (by decide)
theorem pB_lt (x : Nat) : pB x < 16 := Nat.mod_lt _ (by decide)
theorem pC_lt (x : Nat) : pC x < 16 := Nat.mod_lt _ (by decide)
set_option maxHeartbeats 2000000 in
set_option maxRecDepth 100000 in
theorem step_li (w : World) (b s : Nat) (M : Mac) (x : Nat) (h : Pre w b M x) (hop : pOp x = 26) :
    Calls Tryd.prog 65 #[.pointer (some ⟨b, 0, none⟩), .pointer (some ⟨s, 0, none⟩)] w fun e w' => e = .returned (.tuple #[]) ∧ IsMac w' b ({ setR M (pD x) (wN (pN x)) with pc := M.pc + 1 }) ∧ Kept (fun k => k = b) w w' := by
  have k3 : w.cell? ⟨b, 8209, none⟩ = some (.bool false) := h.hh ▸ h.mac.halted
  have k2 := h.mac.pc
  have tpc : decide (8192 ≤ (M.pc : Int)) = false := by have := h.pc; simp; omega
  have HP := Lib.hid h
  have hxb : x < 18446744073709551616 := h.hx ▸ h.ok.mem _
  have HXB := Lib.hid hxb
  clear hxb
  clear h
  go_enter Tryd.func65, Tryd.ntmps65
  go_upto_region 3 with (fail)
  have NE : Nonempty (Wd (fun z => Below w.heap.size w z)) := ⟨⟨w.drew, (Below.refl _ _).drew⟩⟩
  have kpc : ∀ z : Wd (fun z => Below w.heap.size w z), z.val.cell? ⟨b, 8208, none⟩ = some (.int .u64 (M.pc : Int)) := fun z => keep1 z.ok HP.out.mac.pc
  have km : ∀ z : Wd (fun z => Below w.heap.size w z), z.val.cell? ⟨b, M.pc, none⟩ = some (.int .u64 (x : Int)) := fun z => keep1 z.ok (HP.out.hx ▸ HP.out.mac.mem HP.out.pc)
  have hlt : (M.pc : Int) < 8192 := by have := HP.out.pc; omega
  have hpv : Hid (partsV x = .tuple #[.int .i64 (pOp x), .int .i64 (pD x), .int .i64 (pA x), .int .i64 (pB x), .int .i64 (pC x), .int .i64 (pN x), .bool true]) := Lib.hid (if_pos HP.out.pok)
  have Q1 := Lib.hid (fun z : Wd (fun z => Below w.heap.size w z) => in_of_below z (fun y hb => bl z.ok hb) (hpv.out ▸ parts_walk z.val x HXB.out))
  clear k2 k3 tpc
  refine wp_region_in (fun z => Below w.heap.size w z) (by kernel_rfl) (by kernel_rfl) (Below.refl _ _).drew ?_
  repeat (go_big_quiet_step (with_reducible exact Q1.out _))
  refine wpQuiet_nil ?_
  rintro y0 ⟨z, rfl⟩
  have HZ := Lib.hid (HP.out.mac.below z.ok)
  have HB := Lib.hid z.ok
  clear Q1 kpc km NE hlt
  generalize z.val = y at *
  have hd : (pD x : Int) < 16 := by have := pD_lt x; omega
  have kd := HZ.out.reg (pD_lt x)
  have fd := HZ.out.fz (8192 + pD x)
  have HS : Hid (IsMac (y.setCell ⟨b, 8192 + pD x, none⟩ (.int .u64 (IntKind.u64.wrap (pN x)))) b (setR M (pD x) (wN (pN x)))) := Lib.hid (by rw [wN_eq]; exact HZ.out.setReg (pD_lt x) _)
  have HK : Hid (Kept (fun k => k = b) w (y.setCell ⟨b, 8192 + pD x, none⟩ (.int .u64 (IntKind.u64.wrap (pN x))))) := Lib.hid (kept_set (S := fun k => k = b) (Kept.ofBelow HB.out) b _ rfl _)
  go_upto_region 16 with (fail)
  clear kd fd hd
  generalize y.setCell ⟨b, 8192 + pD x, none⟩ (.int .u64 (IntKind.u64.wrap (pN x))) = y1 at *
  have kp := HS.out.pc
  have fp := HS.out.fz 8208
  have HW : Hid (IntKind.u64.wrap ((M.pc : Int) + 1) = ((M.pc + 1 : Nat) : Int)) := Lib.hid (wrap_pc HP.out.pc)
  have H9 : Hid (IsMac (y1.setCell ⟨b, 8208, none⟩ (.int .u64 (IntKind.u64.wrap ((M.pc : Int) + 1)))) b { setR M (pD x) (wN (pN x)) with pc := M.pc + 1 }) := Lib.hid (by rw [HW.out]; exact HS.out.setPc (M.pc + 1))
  have K9 := Lib.hid (kept_set (S := fun k => k = b) HK.out b 8208 rfl (.int .u64 (IntKind.u64.wrap ((M.pc : Int) + 1))))
  generalize hpc : (M.pc : Int) = PC at *
  go_wp2_with (fail)
  subst hpc
  exact bodyPost_end (v := .tuple #[]) (by simp [results, Tryd.results65, go_sem]) rfl ⟨rfl, H9.out, K9.out⟩
set_option maxHeartbeats 2000000 in
set_option maxRecDepth 100000 in
theorem step_halt (w : World) (b s : Nat) (M : Mac) (x : Nat) (h : Pre w b M x) (hop : pOp x = 0) :
    Calls Tryd.prog 65 #[.pointer (some ⟨b, 0, none⟩), .pointer (some ⟨s, 0, none⟩)] w fun e w' => e = .returned (.tuple #[]) ∧ IsMac w' b (stopM { M with pc := M.pc + 1 } (M.reg (pA x))) ∧ Kept (fun k => k = b) w w' := by
  have k3 : w.cell? ⟨b, 8209, none⟩ = some (.bool false) := h.hh ▸ h.mac.halted
  have k2 := h.mac.pc
  have tpc : decide (8192 ≤ (M.pc : Int)) = false := by have := h.pc; simp; omega
  have HP := Lib.hid h
  have hxb : x < 18446744073709551616 := h.hx ▸ h.ok.mem _
  have HXB := Lib.hid hxb
  clear hxb
  clear h
  go_enter Tryd.func65, Tryd.ntmps65
  go_upto_region 3 with (fail)
  have NE : Nonempty (Wd (fun z => Below w.heap.size w z)) := ⟨⟨w.drew, (Below.refl _ _).drew⟩⟩
  have kpc : ∀ z : Wd (fun z => Below w.heap.size w z), z.val.cell? ⟨b, 8208, none⟩ = some (.int .u64 (M.pc : Int)) := fun z => keep1 z.ok HP.out.mac.pc
  have km : ∀ z : Wd (fun z => Below w.heap.size w z), z.val.cell? ⟨b, M.pc, none⟩ = some (.int .u64 (x : Int)) := fun z => keep1 z.ok (HP.out.hx ▸ HP.out.mac.mem HP.out.pc)
  have hlt : (M.pc : Int) < 8192 := by have := HP.out.pc; omega
  have hpv : Hid (partsV x = .tuple #[.int .i64 (pOp x), .int .i64 (pD x), .int .i64 (pA x), .int .i64 (pB x), .int .i64 (pC x), .int .i64 (pN x), .bool true]) := Lib.hid (if_pos HP.out.pok)
  have Q1 := Lib.hid (fun z : Wd (fun z => Below w.heap.size w z) => in_of_below z (fun y hb => bl z.ok hb) (hpv.out ▸ parts_walk z.val x HXB.out))
  clear k2 k3 tpc
  refine wp_region_in (fun z => Below w.heap.size w z) (by kernel_rfl) (by kernel_rfl) (Below.refl _ _).drew ?_
  repeat (go_big_quiet_step (with_reducible exact Q1.out _))
  refine wpQuiet_nil ?_
  rintro y0 ⟨z, rfl⟩
  have HZ := Lib.hid (HP.out.mac.below z.ok)
  have HB := Lib.hid z.ok
  clear Q1 kpc km NE hlt
  generalize z.val = y at *
  have ha : (pA x : Int) < 16 := by have := pA_lt x; omega
  have kp := HZ.out.pc
  have fp := HZ.out.fz 8208
  have HW : Hid (IntKind.u64.wrap ((M.pc : Int) + 1) = ((M.pc + 1 : Nat) : Int)) := Lib.hid (wrap_pc HP.out.pc)
  have HS : Hid (IsMac (y.setCell ⟨b, 8208, none⟩ (.int .u64 (IntKind.u64.wrap ((M.pc : Int) + 1)))) b { M with pc := M.pc + 1 }) := Lib.hid (by rw [HW.out]; exact HZ.out.setPc (M.pc + 1))
  have HK : Hid (Kept (fun k => k = b) w (y.setCell ⟨b, 8208, none⟩ (.int .u64 (IntKind.u64.wrap ((M.pc : Int) + 1))))) := Lib.hid (kept_set (S := fun k => k = b) (Kept.ofBelow HB.out) b _ rfl _)
  go_upto_region 10 with (fail)
  clear kp fp
  generalize y.setCell ⟨b, 8208, none⟩ (.int .u64 (IntKind.u64.wrap ((M.pc : Int) + 1))) = y1 at *
  have ka := HS.out.reg (pA_lt x)
  have HC := Lib.hid (stop_walk y1 b (M.reg (pA x)) _ HS.out)
  go_wp2_with (go_at_call 78; (with_reducible refine HC.out.mono ?_); rintro e y2 ⟨he, hm, hk⟩; obtain rfl : e = _ := he; have HM2 := Lib.hid hm; have HK2 := Lib.hid hk; clear hm hk)
  exact bodyPost_end (v := .tuple #[]) (by simp [results, Tryd.results65, go_sem]) rfl ⟨rfl, HM2.out, HK.out.trans HK2.out fun _ _ h => h⟩
set_option maxHeartbeats 2000000 in
set_option maxRecDepth 100000 in
theorem step_app (w : World) (b s : Nat) (M : Mac) (x : Nat) (h : Pre w b M x) (hop : 1 ≤ pOp x ∧ pOp x ≤ 25) (v : Nat) (ec : Value) (hA : ∀ y, Calls Tryd.prog 79 #[.int .i64 (pOp x), .int .u64 (M.reg (pA x)), .int .u64 (M.reg (pB x)), .int .u64 (M.reg (pC x))] y fun e w' => e = .returned (.tuple #[.int .u64 v, ec]) ∧ y = w') :
    Calls Tryd.prog 65 #[.pointer (some ⟨b, 0, none⟩), .pointer (some ⟨s, 0, none⟩)] w fun e w' => e = .returned (.tuple #[]) ∧ IsMac w' b ({ setR M (pD x) v with pc := M.pc + 1 }) ∧ Kept (fun k => k = b) w w' := by
  have k3 : w.cell? ⟨b, 8209, none⟩ = some (.bool false) := h.hh ▸ h.mac.halted
  have k2 := h.mac.pc
  have tpc : decide (8192 ≤ (M.pc : Int)) = false := by have := h.pc; simp; omega
  have HP := Lib.hid h
  have hxb : x < 18446744073709551616 := h.hx ▸ h.ok.mem _
  have HXB := Lib.hid hxb
  clear hxb
  have to0 : ((pOp x : Int) == 0) = false := by simp; omega
  have to1 : decide ((pOp x : Int) < 26) = true := by simp; omega
  have HA := Lib.hid hA
  clear hA hop
  clear h
  go_enter Tryd.func65, Tryd.ntmps65
  go_upto_region 3 with (fail)
  have NE : Nonempty (Wd (fun z => Below w.heap.size w z)) := ⟨⟨w.drew, (Below.refl _ _).drew⟩⟩
  have kpc : ∀ z : Wd (fun z => Below w.heap.size w z), z.val.cell? ⟨b, 8208, none⟩ = some (.int .u64 (M.pc : Int)) := fun z => keep1 z.ok HP.out.mac.pc
  have km : ∀ z : Wd (fun z => Below w.heap.size w z), z.val.cell? ⟨b, M.pc, none⟩ = some (.int .u64 (x : Int)) := fun z => keep1 z.ok (HP.out.hx ▸ HP.out.mac.mem HP.out.pc)
  have hlt : (M.pc : Int) < 8192 := by have := HP.out.pc; omega
  have hpv : Hid (partsV x = .tuple #[.int .i64 (pOp x), .int .i64 (pD x), .int .i64 (pA x), .int .i64 (pB x), .int .i64 (pC x), .int .i64 (pN x), .bool true]) := Lib.hid (if_pos HP.out.pok)
  have Q1 := Lib.hid (fun z : Wd (fun z => Below w.heap.size w z) => in_of_below z (fun y hb => bl z.ok hb) (hpv.out ▸ parts_walk z.val x HXB.out))
  clear k2 k3 tpc
  refine wp_region_in (fun z => Below w.heap.size w z) (by kernel_rfl) (by kernel_rfl) (Below.refl _ _).drew ?_
  repeat (go_big_quiet_step (with_reducible exact Q1.out _))
  refine wpQuiet_nil ?_
  rintro y0 ⟨z, rfl⟩
  have HZ := Lib.hid (HP.out.mac.below z.ok)
  have HB := Lib.hid z.ok
  clear Q1 kpc km NE hlt
  generalize z.val = y at *
  have ha : (pA x : Int) < 16 := by have := pA_lt x; omega
  have hb : (pB x : Int) < 16 := by have := pB_lt x; omega
  have hc : (pC x : Int) < 16 := by have := pC_lt x; omega
  have hd : (pD x : Int) < 16 := by have := pD_lt x; omega
  go_upto_region 12 with (fail)
  have HZ := Lib.hid (HZ.out.kept (Wt.kept_drew y) id)
  have HBK : Hid (Kept (fun k => k = b) w y.drew) := Lib.hid (Kept.ofBelow HB.out).drew
  have HS : Hid (IsMac (y.drew.setCell ⟨b, 8192 + pD x, none⟩ (.int .u64 (v : Int))) b (setR M (pD x) v)) := Lib.hid (HZ.out.setReg (pD_lt x) _)
  have HK : Hid (Kept (fun k => k = b) w (y.drew.setCell ⟨b, 8192 + pD x, none⟩ (.int .u64 (v : Int)))) := Lib.hid (kept_set (S := fun k => k = b) HBK.out b _ rfl _)
  refine wp_region_oz (fun z : World => y.drew = z) 24 (.take 0 (.take 1 (.take 2 (.take 3 (.take 4 (.take 5 (.take 6 (.take 7 (.take 8 (.take 9 (.take 10 (.take 11 (.take 12 (.take 13 (.take 14 (.take 15 (.take 16 (.take 17 (.free 22 (.one 18 (.take 19 (.take 20 (.free 21 (.free 23 (.one 24 .done))))))))))))))))))))))))) (by kernel_rfl) (by kernel_rfl) rfl ?_
  generalize y.drew = y0 at *
  refine oz_tk (some 83) (.pointer (some ⟨b, 8192, none⟩)) rfl rfl (by go_simp) (fun _ _ => by simp [execOp, go_sem]) ?_
  simp only [Act.put, List.setIfInBounds_toArray, List.set_cons_zero, List.set_cons_succ]
  refine oz_tk (some 84) (.int .i64 (pD x)) rfl rfl (by go_simp) (fun _ _ => by simp [execOp, go_sem]) ?_
  simp only [Act.put, List.setIfInBounds_toArray, List.set_cons_zero, List.set_cons_succ]
  refine oz_tk (some 85) (.int .i64 (pOp x)) rfl rfl (by go_simp) (fun _ _ => by simp [execOp, go_sem]) ?_
  simp only [Act.put, List.setIfInBounds_toArray, List.set_cons_zero, List.set_cons_succ]
  refine oz_tk (some 86) (.pointer (some ⟨b, 8192, none⟩)) rfl rfl (by go_simp) (fun _ _ => by simp [execOp, go_sem]) ?_
  simp only [Act.put, List.setIfInBounds_toArray, List.set_cons_zero, List.set_cons_succ]
  refine oz_tk (some 87) (.int .i64 (pA x)) rfl rfl (by go_simp) (fun _ _ => by simp [execOp, go_sem]) ?_
  simp only [Act.put, List.setIfInBounds_toArray, List.set_cons_zero, List.set_cons_succ]
  refine oz_tk (some 88) (.pointer (some ⟨b, 8192, none⟩)) rfl rfl (by go_simp) (fun _ _ => by simp [execOp, go_sem]) ?_
  simp only [Act.put, List.setIfInBounds_toArray, List.set_cons_zero, List.set_cons_succ]
  refine oz_tk (some 89) (.pointer (some ⟨b, (8192 + pA x), none⟩)) rfl rfl (by go_simp) (fun _ _ => by have h := ix16 b (pA x) (pA_lt x); simp [execOp, go_sem, h, Result.andThen]) ?_
  simp only [Act.put, List.setIfInBounds_toArray, List.set_cons_zero, List.set_cons_succ]
  refine oz_ld (some 90) 78 (.tmp 89) (.pointer (some ⟨b, (8192 + pA x), none⟩)) (.int .u64 (M.reg (pA x))) rfl rfl (by go_simp) rfl rfl (fun y hy => by have h := hy ▸ HZ.out.reg (pA_lt x); simp [Instr.loadAt, go_sem, h, Tryd.underlying78]) ?_
  simp only [Act.put, List.setIfInBounds_toArray, List.set_cons_zero, List.set_cons_succ]
  refine oz_tk (some 91) (.pointer (some ⟨b, 8192, none⟩)) rfl rfl (by go_simp) (fun _ _ => by simp [execOp, go_sem]) ?_
  simp only [Act.put, List.setIfInBounds_toArray, List.set_cons_zero, List.set_cons_succ]
  refine oz_tk (some 92) (.int .i64 (pB x)) rfl rfl (by go_simp) (fun _ _ => by simp [execOp, go_sem]) ?_
  simp only [Act.put, List.setIfInBounds_toArray, List.set_cons_zero, List.set_cons_succ]
  refine oz_tk (some 93) (.pointer (some ⟨b, 8192, none⟩)) rfl rfl (by go_simp) (fun _ _ => by simp [execOp, go_sem]) ?_
  simp only [Act.put, List.setIfInBounds_toArray, List.set_cons_zero, List.set_cons_succ]
  refine oz_tk (some 94) (.pointer (some ⟨b, (8192 + pB x), none⟩)) rfl rfl (by go_simp) (fun _ _ => by have h := ix16 b (pB x) (pB_lt x); simp [execOp, go_sem, h, Result.andThen]) ?_
  simp only [Act.put, List.setIfInBounds_toArray, List.set_cons_zero, List.set_cons_succ]
  refine oz_ld (some 95) 78 (.tmp 94) (.pointer (some ⟨b, (8192 + pB x), none⟩)) (.int .u64 (M.reg (pB x))) rfl rfl (by go_simp) rfl rfl (fun y hy => by have h := hy ▸ HZ.out.reg (pB_lt x); simp [Instr.loadAt, go_sem, h, Tryd.underlying78]) ?_
  simp only [Act.put, List.setIfInBounds_toArray, List.set_cons_zero, List.set_cons_succ]
  refine oz_tk (some 96) (.pointer (some ⟨b, 8192, none⟩)) rfl rfl (by go_simp) (fun _ _ => by simp [execOp, go_sem]) ?_
  simp only [Act.put, List.setIfInBounds_toArray, List.set_cons_zero, List.set_cons_succ]
  refine oz_tk (some 97) (.int .i64 (pC x)) rfl rfl (by go_simp) (fun _ _ => by simp [execOp, go_sem]) ?_
  simp only [Act.put, List.setIfInBounds_toArray, List.set_cons_zero, List.set_cons_succ]
  refine oz_tk (some 98) (.pointer (some ⟨b, 8192, none⟩)) rfl rfl (by go_simp) (fun _ _ => by simp [execOp, go_sem]) ?_
  simp only [Act.put, List.setIfInBounds_toArray, List.set_cons_zero, List.set_cons_succ]
  refine oz_tk (some 99) (.pointer (some ⟨b, (8192 + pC x), none⟩)) rfl rfl (by go_simp) (fun _ _ => by have h := ix16 b (pC x) (pC_lt x); simp [execOp, go_sem, h, Result.andThen]) ?_
  simp only [Act.put, List.setIfInBounds_toArray, List.set_cons_zero, List.set_cons_succ]
  refine oz_ld (some 100) 78 (.tmp 99) (.pointer (some ⟨b, (8192 + pC x), none⟩)) (.int .u64 (M.reg (pC x))) rfl rfl (by go_simp) rfl rfl (fun y hy => by have h := hy ▸ HZ.out.reg (pC_lt x); simp [Instr.loadAt, go_sem, h, Tryd.underlying78]) ?_
  simp only [Act.put, List.setIfInBounds_toArray, List.set_cons_zero, List.set_cons_succ]
  refine oz_fr (some 104) (.pointer (some ⟨b, 8192, none⟩)) rfl rfl (by go_simp) (fun _ => by simp [execOp, go_sem]) ?_
  simp only [Act.put, List.setIfInBounds_toArray, List.set_cons_zero, List.set_cons_succ]
  refine oz_f rfl (by go_simp) fun K hK => ?_
  go_simp
  refine (HA.out y0).mono ?_
  rintro e y1 ⟨he, hy1⟩
  obtain rfl : e = _ := he
  subst hy1
  refine hK _ _ rfl ?_
  clear hK K
  refine oz_tk (some 82) (.tuple #[.int .u64 v, ec]) rfl rfl (by go_simp) (fun _ _ => by simp [execOp, go_sem]) ?_
  simp only [Act.put, List.setIfInBounds_toArray, List.set_cons_zero, List.set_cons_succ]
  refine oz_tk (some 102) (.int .u64 v) rfl rfl (by go_simp) (fun _ _ => by simp [execOp, go_sem]) ?_
  simp only [Act.put, List.setIfInBounds_toArray, List.set_cons_zero, List.set_cons_succ]
  refine oz_fr (some 103) (ec) rfl rfl (by go_simp) (fun _ => by simp [execOp, go_sem]) ?_
  simp only [Act.put, List.setIfInBounds_toArray, List.set_cons_zero, List.set_cons_succ]
  refine oz_fr (some 105) (.pointer (some ⟨b, (8192 + pD x), none⟩)) rfl rfl (by go_simp) (fun _ => by have h := ix16 b (pD x) (pD_lt x); simp [execOp, go_sem, h, Result.andThen]) ?_
  simp only [Act.put, List.setIfInBounds_toArray, List.set_cons_zero, List.set_cons_succ]
  have kd := HZ.out.reg (pD_lt x)
  have fd := HZ.out.fz (8192 + pD x)
  refine oz_z rfl (by go_simp) fun K hK => ?_
  go_simp
  refine hK _ _ ?_
  clear hK K kd fd
  refine oz_done (NoPanic.normal ?_)
  generalize y0.setCell ⟨b, 8192 + pD x, none⟩ (.int .u64 (v : Int)) = y1 at *
  have kp := HS.out.pc
  have fp := HS.out.fz 8208
  have HW : Hid (IntKind.u64.wrap ((M.pc : Int) + 1) = ((M.pc + 1 : Nat) : Int)) := Lib.hid (wrap_pc HP.out.pc)
  have H9 : Hid (IsMac (y1.setCell ⟨b, 8208, none⟩ (.int .u64 (IntKind.u64.wrap ((M.pc : Int) + 1)))) b { setR M (pD x) v with pc := M.pc + 1 }) := Lib.hid (by rw [HW.out]; exact HS.out.setPc (M.pc + 1))
  have K9 := Lib.hid (kept_set (S := fun k => k = b) HK.out b 8208 rfl (.int .u64 (IntKind.u64.wrap ((M.pc : Int) + 1))))
  generalize hpc : (M.pc : Int) = PC at *
  go_wp2_with (fail)
  subst hpc
  exact bodyPost_end (v := .tuple #[]) (by simp [results, Tryd.results65, go_sem]) rfl ⟨rfl, H9.out, K9.out⟩
end Vm
end Go.Proofs.YtdmffnjbholkkaaDoor
