/- Merged of Ym Yo Yq Yr. Own work. -/
import Derived.Test.YtjfpbponjhpdhaaDoorP13
import Derived.Test.YtjfpbponjhpdhaaDoorP07
import Derived.Test.YtjfpbponjhpdhaaDoorP12
import Derived.Deep.WholeRow
import Derived.Laws.Tables
import Derived.Laws.Rows
import Derived.StillTailTactics
import Derived.Laws.Bits64b
namespace Go.Proofs.YtjfpbponjhpdhaaDoor
open Go.RowKit
set_option linter.unusedVariables false
set_option linter.unusedSimpArgs false
namespace Vm
open Kc
set_option maxHeartbeats 2000000 in
set_option maxRecDepth 100000 in
theorem step_jump (w : World) (b s : Nat) (M : Mac) (x : Nat) (h : Pre w b M x) (hop : 29 ≤ pOp x ∧ pOp x ≤ 33) :
    Calls Tryd.prog 36 #[.pointer (some ⟨b, 0, none⟩), .pointer (some ⟨s, 0, none⟩)] w fun e w' => e = .returned (.tuple #[]) ∧ IsMac w' b (jumpM M (pOp x) (pD x) (pA x) (wN (pN x))) ∧ Kept (fun k => k = b) w w' := by
  have k3 : w.cell? ⟨b, 8209, none⟩ = some (.bool false) := h.hh ▸ h.mac.halted
  have k2 := h.mac.pc
  have tpc : decide (8192 ≤ (M.pc : Int)) = false := by have := h.pc; simp; omega
  have HP := Lib.hid h
  have hxb : x < 18446744073709551616 := h.hx ▸ h.ok.mem _
  have HXB := Lib.hid hxb
  clear hxb
  have to0 : ((pOp x : Int) == 0) = false := by simp; omega
  have to1 : decide ((pOp x : Int) < 26) = false := by simp; omega
  have to2 : ((pOp x : Int) == 26) = false := by simp; omega
  have to3 : decide ((pOp x : Int) ≤ 28) = false := by simp; omega
  have to4 : decide ((pOp x : Int) ≤ 33) = true := by simp; omega
  have HO := Lib.hid hop
  clear hop
  clear h
  go_enter Tryd.func36, Tryd.ntmps36
  go_upto_region 3 with (fail)
  have NE : Nonempty (Wd (fun z => Below w.heap.size w z)) := ⟨⟨w.drew, (Below.refl _ _).drew⟩⟩
  have kpc : ∀ z : Wd (fun z => Below w.heap.size w z), z.val.cell? ⟨b, 8208, none⟩ = some (.int .u64 (M.pc : Int)) := fun z => keep1 z.ok HP.out.mac.pc
  have km : ∀ z : Wd (fun z => Below w.heap.size w z), z.val.cell? ⟨b, M.pc, none⟩ = some (.int .u64 (x : Int)) := fun z => keep1 z.ok (HP.out.hx ▸ HP.out.mac.mem HP.out.pc)
  have hlt : (M.pc : Int) < 8192 := by have := HP.out.pc; omega
  have hpv : Hid (partsV x = .tuple #[.int .i64 (pOp x), .int .i64 (pD x), .int .i64 (pA x), .int .i64 (pB x), .int .i64 (pC x), .int .i64 (pN x), .bool true]) := Lib.hid (if_pos HP.out.pok)
  have Q1 := Lib.hid (fun z : Wd (fun z => Below w.heap.size w z) => in_of_below z (fun y hb => bl z.ok hb) (hpv.out ▸ parts_walk z.val x HXB.out))
  clear k2 k3 tpc
  refine wp_region_in (fun z => Below w.heap.size w z) (by kernel_rfl) (by kernel_rfl) (Below.refl _ _).drew ?_
  repeat (go_big_quiet_step (with_reducible exact Q1.out _))
  refine wpQuiet_nil ?_
  rintro y0 ⟨z, rfl⟩
  have HZ := Lib.hid (HP.out.mac.below z.ok)
  have HB := Lib.hid z.ok
  clear Q1 kpc km NE hlt
  generalize z.val = y at *
  have HJ : Hid (Calls Tryd.prog 61 #[.pointer (some ⟨b, 0, none⟩), .int .i64 (pOp x), .int .i64 (pD x), .int .i64 (pA x), .int .u64 (IntKind.u64.wrap (pN x))] y fun e w' => e = .returned (.tuple #[]) ∧ IsMac w' b (jumpM M (pOp x) (pD x) (pA x) (wN (pN x))) ∧ Kept (fun k => k = b) y w') := Lib.hid (by rw [wN_eq]; exact jump_walk y b (pOp x) (pD x) (pA x) (wN (pN x)) M HZ.out HO.out (pD_lt x) (pA_lt x) HP.out.pc)
  go_wp2_with (go_at_call 61; (with_reducible refine HJ.out.mono ?_); rintro e y2 ⟨he, hm, hk⟩; obtain rfl : e = _ := he; have HM2 := Lib.hid hm; have HK2 := Lib.hid hk; clear hm hk HJ)
  exact bodyPost_end (v := .tuple #[]) (by simp [results, Tryd.results36, go_sem]) rfl ⟨rfl, HM2.out, (Kept.ofBelow HB.out).trans HK2.out fun _ _ h => h⟩
theorem lowB_le' {w : World} (ht : Laid.KTab w) : Wt.lowB ≤ w.heap.size := by
  have := inHeap (ht 0 (by decide))
  unfold Wt.lowB
  omega
end Vm
end Go.Proofs.YtjfpbponjhpdhaaDoor
namespace Go.Proofs.YtjfpbponjhpdhaaDoor
open Go.RowKit
set_option linter.unusedVariables false
set_option linter.unusedSimpArgs false
namespace Vm
open Kc
theorem ixMem (b i : Nat) (hi : i < 8192) (w : World) : (Instr.indexAt 34 (.pointer (some ⟨b, 0, none⟩)) (.int .u64 i)).run Tryd.prog w = .ok (.pointer (some ⟨b, i, none⟩)) w := by
  have h1 : (i : Int) < 8192 := by omega
  simp [go_sem, h1, Tryd.underlying34]
/-- A load or a store, plain. -/
def accM (M : Mac) (op d b p : Nat) : Mac :=
  if 8192 ≤ p then stopM M 18446744073709551614
  else { (if op = 27 then setR M d (M.mem p) else setM M p (M.reg b)) with pc := M.pc + 1 }
set_option maxHeartbeats 2000000 in
set_option maxRecDepth 100000 in
theorem acc_ld (w : World) (b d a p : Nat) (M : Mac) (h : IsMac w b M) (hd : d < 16) (ha : a < 16) (hpc : M.pc < 8192) (hp : p < 8192) :
    Calls Tryd.prog 60 #[.pointer (some ⟨b, 0, none⟩), .int .i64 27, .int .i64 d, .int .i64 a, .int .u64 p] w fun e w' => e = .returned (.tuple #[]) ∧ IsMac w' b ({ setR M d (M.mem p) with pc := M.pc + 1 }) ∧ Kept (fun k => k = b) w w' := by
  have t1 : decide (8192 ≤ (p : Int)) = false := by simp; omega
  have HI := Lib.hid (And.intro hd (And.intro ha hp))
  have HH := Lib.hid h
  have HPC := Lib.hid hpc
  clear h hpc hd ha hp
  go_enter Tryd.func60, Tryd.ntmps60
  go_upto_region 3 with (fail)
  have HZ := Lib.hid (HH.out.kept (Wt.kept_drew w) id)
  have HS : Hid (IsMac (w.drew.setCell ⟨b, 8192 + d, none⟩ (.int .u64 (M.mem p : Int))) b (setR M d (M.mem p))) := Lib.hid (HZ.out.setReg HI.out.1 _)
  have HK : Hid (Kept (fun k => k = b) w (w.drew.setCell ⟨b, 8192 + d, none⟩ (.int .u64 (M.mem p : Int)))) := Lib.hid (kept_set (S := fun k => k = b) (Kept.drew (Kept.refl _ w)) b _ rfl _)
  refine wp_region_oz (fun z : World => w.drew = z) 11 (.take 0 (.take 1 (.take 2 (.take 3 (.take 4 (.take 5 (.take 6 (.take 7 (.free 8 (.free 9 (.free 10 (.one 11 .done)))))))))))) (by kernel_rfl) (by kernel_rfl) rfl ?_
  generalize w.drew = y0 at *
  refine oz_tk (some 16) (.pointer (some ⟨b, 0, none⟩)) rfl rfl (by go_simp) (fun _ _ => by simp [execOp, go_sem]) ?_
  simp only [Act.put, pS]
  refine oz_tk (some 17) (.int .i64 d) rfl rfl (by go_simp) (fun _ _ => by simp [execOp, go_sem]) ?_
  simp only [Act.put, pS]
  refine oz_tk (some 18) (.pointer (some ⟨b, 0, none⟩)) rfl rfl (by go_simp) (fun _ _ => by simp [execOp, go_sem]) ?_
  simp only [Act.put, pS]
  refine oz_tk (some 19) (.int .u64 p) rfl rfl (by go_simp) (fun _ _ => by simp [execOp, go_sem]) ?_
  simp only [Act.put, pS]
  refine oz_tk (some 20) (.pointer (some ⟨b, 0, none⟩)) rfl rfl (by go_simp) (fun _ _ => by simp [execOp, go_sem]) ?_
  simp only [Act.put, pS]
  refine oz_tk (some 21) (.pointer (some ⟨b, 0, none⟩)) rfl rfl (by go_simp) (fun _ _ => by simp [execOp, go_sem]) ?_
  simp only [Act.put, pS]
  refine oz_tk (some 22) (.pointer (some ⟨b, p, none⟩)) rfl rfl (by go_simp) (fun _ _ => by have h := ixMem b p HI.out.2.2; simp [execOp, go_sem, h, Result.andThen]) ?_
  simp only [Act.put, pS]
  refine oz_ld (some 23) 33 (.tmp 22) (.pointer (some ⟨b, p, none⟩)) (.int .u64 (M.mem p : Int)) rfl rfl (by go_simp) rfl rfl (fun y hy => by have h := hy ▸ HZ.out.mem HI.out.2.2; simp [Instr.loadAt, go_sem, h, Tryd.underlying33]) ?_
  simp only [Act.put, pS]
  refine oz_fr (some 24) (.pointer (some ⟨b, 0, none⟩)) rfl rfl (by go_simp) (fun _ => by simp [execOp, go_sem]) ?_
  simp only [Act.put, pS]
  refine oz_fr (some 25) (.pointer (some ⟨b, 8192, none⟩)) rfl rfl (by go_simp) (fun _ => by simp [execOp, go_sem]) ?_
  simp only [Act.put, pS]
  refine oz_fr (some 26) (.pointer (some ⟨b, (8192 + d), none⟩)) rfl rfl (by go_simp) (fun _ => by have h := ix16 b d HI.out.1; simp [execOp, go_sem, h, Result.andThen]) ?_
  simp only [Act.put, pS]
  have kd := HZ.out.reg HI.out.1
  have fd := HZ.out.fz (8192 + d)
  refine oz_z rfl (by go_simp) fun K hK => ?_
  go_simp
  refine hK _ _ ?_
  clear hK K kd fd
  refine oz_done (NoPanic.normal ?_)
  generalize y0.setCell ⟨b, 8192 + d, none⟩ (.int .u64 (M.mem p : Int)) = y1 at *
  have kp := HS.out.pc
  have fp := HS.out.fz 8208
  have HW : Hid (IntKind.u64.wrap ((M.pc : Int) + 1) = ((M.pc + 1 : Nat) : Int)) := Lib.hid (wrap_pc HPC.out)
  have H9 : Hid (IsMac (y1.setCell ⟨b, 8208, none⟩ (.int .u64 (IntKind.u64.wrap ((M.pc : Int) + 1)))) b { setR M d (M.mem p) with pc := M.pc + 1 }) := Lib.hid (by rw [HW.out]; exact HS.out.setPc (M.pc + 1))
  have K9 := Lib.hid (kept_set (S := fun k => k = b) HK.out b 8208 rfl (.int .u64 (IntKind.u64.wrap ((M.pc : Int) + 1))))
  have kp : y1.cell? ⟨b, 8208, none⟩ = some (.int .u64 (M.pc : Int)) := kp
  generalize hpc : (M.pc : Int) = PC at *
  go_wp2_with (fail)
  subst hpc
  exact bodyPost_end (v := .tuple #[]) (by simp [results, Tryd.results60, go_sem]) rfl ⟨rfl, H9.out, K9.out⟩
set_option maxHeartbeats 2000000 in
set_option maxRecDepth 100000 in
theorem acc_st (w : World) (b d a p : Nat) (M : Mac) (h : IsMac w b M) (hd : d < 16) (ha : a < 16) (hpc : M.pc < 8192) (hp : p < 8192) :
    Calls Tryd.prog 60 #[.pointer (some ⟨b, 0, none⟩), .int .i64 28, .int .i64 d, .int .i64 a, .int .u64 p] w fun e w' => e = .returned (.tuple #[]) ∧ IsMac w' b ({ setM M p (M.reg a) with pc := M.pc + 1 }) ∧ Kept (fun k => k = b) w w' := by
  have t1 : decide (8192 ≤ (p : Int)) = false := by simp; omega
  have HI := Lib.hid (And.intro hd (And.intro ha hp))
  have HH := Lib.hid h
  have HPC := Lib.hid hpc
  clear h hpc hd ha hp
  go_enter Tryd.func60, Tryd.ntmps60
  go_upto_region 4 with (fail)
  have HZ := Lib.hid (HH.out.kept (Wt.kept_drew w) id)
  have HS : Hid (IsMac (w.drew.setCell ⟨b, p, none⟩ (.int .u64 (M.reg a : Int))) b (setM M p (M.reg a))) := Lib.hid (HZ.out.setMem HI.out.2.2 _)
  have HK : Hid (Kept (fun k => k = b) w (w.drew.setCell ⟨b, p, none⟩ (.int .u64 (M.reg a : Int)))) := Lib.hid (kept_set (S := fun k => k = b) (Kept.drew (Kept.refl _ w)) b _ rfl _)
  refine wp_region_oz (fun z : World => w.drew = z) 11 (.take 0 (.take 1 (.take 2 (.take 3 (.take 4 (.take 5 (.take 6 (.take 7 (.free 8 (.free 9 (.free 10 (.one 11 .done)))))))))))) (by kernel_rfl) (by kernel_rfl) rfl ?_
  generalize w.drew = y0 at *
  refine oz_tk (some 27) (.pointer (some ⟨b, 0, none⟩)) rfl rfl (by go_simp) (fun _ _ => by simp [execOp, go_sem]) ?_
  simp only [Act.put, pS]
  refine oz_tk (some 28) (.int .u64 p) rfl rfl (by go_simp) (fun _ _ => by simp [execOp, go_sem]) ?_
  simp only [Act.put, pS]
  refine oz_tk (some 29) (.pointer (some ⟨b, 0, none⟩)) rfl rfl (by go_simp) (fun _ _ => by simp [execOp, go_sem]) ?_
  simp only [Act.put, pS]
  refine oz_tk (some 30) (.int .i64 a) rfl rfl (by go_simp) (fun _ _ => by simp [execOp, go_sem]) ?_
  simp only [Act.put, pS]
  refine oz_tk (some 31) (.pointer (some ⟨b, 0, none⟩)) rfl rfl (by go_simp) (fun _ _ => by simp [execOp, go_sem]) ?_
  simp only [Act.put, pS]
  refine oz_tk (some 32) (.pointer (some ⟨b, 8192, none⟩)) rfl rfl (by go_simp) (fun _ _ => by simp [execOp, go_sem]) ?_
  simp only [Act.put, pS]
  refine oz_tk (some 33) (.pointer (some ⟨b, (8192 + a), none⟩)) rfl rfl (by go_simp) (fun _ _ => by have h := ix16 b a HI.out.2.1; simp [execOp, go_sem, h, Result.andThen]) ?_
  simp only [Act.put, pS]
  refine oz_ld (some 34) 33 (.tmp 33) (.pointer (some ⟨b, (8192 + a), none⟩)) (.int .u64 (M.reg a : Int)) rfl rfl (by go_simp) rfl rfl (fun y hy => by have h := hy ▸ HZ.out.reg HI.out.2.1; simp [Instr.loadAt, go_sem, h, Tryd.underlying33]) ?_
  simp only [Act.put, pS]
  refine oz_fr (some 35) (.pointer (some ⟨b, 0, none⟩)) rfl rfl (by go_simp) (fun _ => by simp [execOp, go_sem]) ?_
  simp only [Act.put, pS]
  refine oz_fr (some 36) (.pointer (some ⟨b, 0, none⟩)) rfl rfl (by go_simp) (fun _ => by simp [execOp, go_sem]) ?_
  simp only [Act.put, pS]
  refine oz_fr (some 37) (.pointer (some ⟨b, p, none⟩)) rfl rfl (by go_simp) (fun _ => by have h := ixMem b p HI.out.2.2; simp [execOp, go_sem, h, Result.andThen]) ?_
  simp only [Act.put, pS]
  have kd := HZ.out.mem HI.out.2.2
  have fd := HZ.out.fz p
  refine oz_z rfl (by go_simp) fun K hK => ?_
  go_simp
  refine hK _ _ ?_
  clear hK K kd fd
  refine oz_done (NoPanic.normal ?_)
  generalize y0.setCell ⟨b, p, none⟩ (.int .u64 (M.reg a : Int)) = y1 at *
  have kp := HS.out.pc
  have fp := HS.out.fz 8208
  have HW : Hid (IntKind.u64.wrap ((M.pc : Int) + 1) = ((M.pc + 1 : Nat) : Int)) := Lib.hid (wrap_pc HPC.out)
  have H9 : Hid (IsMac (y1.setCell ⟨b, 8208, none⟩ (.int .u64 (IntKind.u64.wrap ((M.pc : Int) + 1)))) b { setM M p (M.reg a) with pc := M.pc + 1 }) := Lib.hid (by rw [HW.out]; exact HS.out.setPc (M.pc + 1))
  have K9 := Lib.hid (kept_set (S := fun k => k = b) HK.out b 8208 rfl (.int .u64 (IntKind.u64.wrap ((M.pc : Int) + 1))))
  have kp : y1.cell? ⟨b, 8208, none⟩ = some (.int .u64 (M.pc : Int)) := kp
  generalize hpc : (M.pc : Int) = PC at *
  go_wp2_with (fail)
  subst hpc
  exact bodyPost_end (v := .tuple #[]) (by simp [results, Tryd.results60, go_sem]) rfl ⟨rfl, H9.out, K9.out⟩
set_option maxHeartbeats 2000000 in
set_option maxRecDepth 100000 in
theorem acc_ldf (w : World) (b d a p : Nat) (M : Mac) (h : IsMac w b M) (hd : d < 16) (ha : a < 16) (hpc : M.pc < 8192) (hp : 8192 ≤ p) :
    Calls Tryd.prog 60 #[.pointer (some ⟨b, 0, none⟩), .int .i64 27, .int .i64 d, .int .i64 a, .int .u64 p] w fun e w' => e = .returned (.tuple #[]) ∧ IsMac w' b (stopM M 18446744073709551614) ∧ Kept (fun k => k = b) w w' := by
  have t1 : decide (8192 ≤ (p : Int)) = true := by simp; omega
  have HC := Lib.hid (stop_wrong w b M h)
  clear h hpc hd ha hp
  go_enter Tryd.func60, Tryd.ntmps60
  go_wp2_with (go_at_call 57; (with_reducible refine HC.out.mono ?_); rintro e y2 ⟨he, hm, hk⟩; obtain rfl : e = _ := he; have HM2 := Lib.hid hm; have HK2 := Lib.hid hk; clear hm hk)
  exact bodyPost_ret (v := .tuple #[]) (by simp [results, Tryd.results60, go_sem]) rfl ⟨rfl, HM2.out, HK2.out⟩
set_option maxHeartbeats 2000000 in
set_option maxRecDepth 100000 in
theorem acc_stf (w : World) (b d a p : Nat) (M : Mac) (h : IsMac w b M) (hd : d < 16) (ha : a < 16) (hpc : M.pc < 8192) (hp : 8192 ≤ p) :
    Calls Tryd.prog 60 #[.pointer (some ⟨b, 0, none⟩), .int .i64 28, .int .i64 d, .int .i64 a, .int .u64 p] w fun e w' => e = .returned (.tuple #[]) ∧ IsMac w' b (stopM M 18446744073709551614) ∧ Kept (fun k => k = b) w w' := by
  have t1 : decide (8192 ≤ (p : Int)) = true := by simp; omega
  have HC := Lib.hid (stop_wrong w b M h)
  clear h hpc hd ha hp
  go_enter Tryd.func60, Tryd.ntmps60
  go_wp2_with (go_at_call 57; (with_reducible refine HC.out.mono ?_); rintro e y2 ⟨he, hm, hk⟩; obtain rfl : e = _ := he; have HM2 := Lib.hid hm; have HK2 := Lib.hid hk; clear hm hk)
  exact bodyPost_ret (v := .tuple #[]) (by simp [results, Tryd.results60, go_sem]) rfl ⟨rfl, HM2.out, HK2.out⟩
theorem access_walk (w : World) (b op d a p : Nat) (M : Mac) (h : IsMac w b M) (hop : op = 27 ∨ op = 28) (hd : d < 16) (ha : a < 16) (hpc : M.pc < 8192) :
    Calls Tryd.prog 60 #[.pointer (some ⟨b, 0, none⟩), .int .i64 op, .int .i64 d, .int .i64 a, .int .u64 p] w fun e w' => e = .returned (.tuple #[]) ∧ IsMac w' b (accM M op d a p) ∧ Kept (fun k => k = b) w w' := by
  rcases Nat.lt_or_ge p 8192 with hp | hp
  · rcases hop with rfl | rfl
    · have e : accM M 27 d a p = { setR M d (M.mem p) with pc := M.pc + 1 } := by unfold accM; rw [if_neg (by omega)]; rfl
      rw [e]; exact acc_ld w b d a p M h hd ha hpc hp
    · have e : accM M 28 d a p = { setM M p (M.reg a) with pc := M.pc + 1 } := by unfold accM; rw [if_neg (by omega)]; rfl
      rw [e]; exact acc_st w b d a p M h hd ha hpc hp
  · have e : accM M op d a p = stopM M 18446744073709551614 := by unfold accM; rw [if_pos hp]
    rw [e]
    rcases hop with rfl | rfl
    · exact acc_ldf w b d a p M h hd ha hpc hp
    · exact acc_stf w b d a p M h hd ha hpc hp
set_option maxHeartbeats 2000000 in
set_option maxRecDepth 100000 in
theorem step_acc (w : World) (b s : Nat) (M : Mac) (x : Nat) (h : Pre w b M x) (hop : pOp x = 27 ∨ pOp x = 28) (p : Nat) (hp : IntKind.u64.wrap ((M.reg (pA x) : Int) + IntKind.u64.wrap (pN x)) = p) :
    Calls Tryd.prog 36 #[.pointer (some ⟨b, 0, none⟩), .pointer (some ⟨s, 0, none⟩)] w fun e w' => e = .returned (.tuple #[]) ∧ IsMac w' b (accM M (pOp x) (pD x) (pB x) p) ∧ Kept (fun k => k = b) w w' := by
  have k3 : w.cell? ⟨b, 8209, none⟩ = some (.bool false) := h.hh ▸ h.mac.halted
  have k2 := h.mac.pc
  have tpc : decide (8192 ≤ (M.pc : Int)) = false := by have := h.pc; simp; omega
  have HP := Lib.hid h
  have hxb : x < 18446744073709551616 := h.hx ▸ h.ok.mem _
  have HXB := Lib.hid hxb
  clear hxb
  have to0 : ((pOp x : Int) == 0) = false := by simp; omega
  have to1 : decide ((pOp x : Int) < 26) = false := by simp; omega
  have to2 : ((pOp x : Int) == 26) = false := by simp; omega
  have to3 : decide ((pOp x : Int) ≤ 28) = true := by simp; omega
  have HO := Lib.hid hop
  have HWP := Lib.hid hp
  clear hop hp
  clear h
  go_enter Tryd.func36, Tryd.ntmps36
  go_upto_region 3 with (fail)
  have NE : Nonempty (Wd (fun z => Below w.heap.size w z)) := ⟨⟨w.drew, (Below.refl _ _).drew⟩⟩
  have kpc : ∀ z : Wd (fun z => Below w.heap.size w z), z.val.cell? ⟨b, 8208, none⟩ = some (.int .u64 (M.pc : Int)) := fun z => keep1 z.ok HP.out.mac.pc
  have km : ∀ z : Wd (fun z => Below w.heap.size w z), z.val.cell? ⟨b, M.pc, none⟩ = some (.int .u64 (x : Int)) := fun z => keep1 z.ok (HP.out.hx ▸ HP.out.mac.mem HP.out.pc)
  have hlt : (M.pc : Int) < 8192 := by have := HP.out.pc; omega
  have hpv : Hid (partsV x = .tuple #[.int .i64 (pOp x), .int .i64 (pD x), .int .i64 (pA x), .int .i64 (pB x), .int .i64 (pC x), .int .i64 (pN x), .bool true]) := Lib.hid (if_pos HP.out.pok)
  have Q1 := Lib.hid (fun z : Wd (fun z => Below w.heap.size w z) => in_of_below z (fun y hb => bl z.ok hb) (hpv.out ▸ parts_walk z.val x HXB.out))
  clear k2 k3 tpc
  refine wp_region_in (fun z => Below w.heap.size w z) (by kernel_rfl) (by kernel_rfl) (Below.refl _ _).drew ?_
  repeat (go_big_quiet_step (with_reducible exact Q1.out _))
  refine wpQuiet_nil ?_
  rintro y0 ⟨z, rfl⟩
  have HZ := Lib.hid (HP.out.mac.below z.ok)
  have HB := Lib.hid z.ok
  clear Q1 kpc km NE hlt
  generalize z.val = y at *
  have ha : (pA x : Int) < 16 := by have := pA_lt x; omega
  have ka := HZ.out.reg (pA_lt x)
  have HJ := Lib.hid (access_walk y b (pOp x) (pD x) (pB x) p M HZ.out HO.out (pD_lt x) (pB_lt x) HP.out.pc)
  rw [← HWP.out] at HJ
  go_wp2_with (go_at_call 60; (with_reducible refine HJ.out.mono ?_); rintro e y2 ⟨he, hm, hk⟩; obtain rfl : e = _ := he; have HM2 := Lib.hid hm; have HK2 := Lib.hid hk; clear hm hk HJ)
  exact bodyPost_end (v := .tuple #[]) (by simp [results, Tryd.results36, go_sem]) rfl ⟨rfl, HM2.out, (Kept.ofBelow HB.out).trans HK2.out fun _ _ h => h⟩
end Vm
end Go.Proofs.YtjfpbponjhpdhaaDoor
namespace Go.Proofs.YtjfpbponjhpdhaaDoor
open Go.ChangeShapes Go.WideShapes Go.Deep Go.RowKit
set_option linter.unusedVariables false
set_option linter.unusedSimpArgs false
namespace Rl
open Kc (tab IsTab)
end Rl
end Go.Proofs.YtjfpbponjhpdhaaDoor
namespace Go.Proofs.YtjfpbponjhpdhaaDoor
open Go.RowKit
set_option linter.unusedVariables false
set_option linter.unusedSimpArgs false
namespace Rl
/-- Bytes as a number, the highest first. -/
def gv (f : Nat → Nat) : Nat → Nat
  | 0 => 0
  | m + 1 => gv f m * 256 + f m
theorem gv_lt {f : Nat → Nat} (hf : ∀ j, f j < 256) : ∀ m, gv f m < 256 ^ m
  | 0 => by simp [gv]
  | m + 1 => by
    have h1 := gv_lt hf m
    have h2 := hf m
    have e : 256 ^ (m + 1) = 256 ^ m * 256 := by rw [Nat.pow_succ]
    unfold gv
    omega
theorem or_w (v x : Nat) (hv : v * 256 < 18446744073709551616) (hx : x < 256) : bits BinOp.or IntKind.u64 (IntKind.u64.wrap ((v : Int) * 256)) (IntKind.u64.wrap (x : Int)) = ((v * 256 + x : Nat) : Int) := by
  have e1 : IntKind.u64.wrap ((v : Int) * 256) = ((v * 256 : Nat) : Int) := by rw [IntWalk.u64_in _ (by omega)]; omega
  have e2 : IntKind.u64.wrap (x : Int) = ((x : Nat) : Int) := by rw [IntWalk.u64_in _ (by omega)]
  rw [e1, e2, bits_or_u64_nat _ _ hv (by omega)]
  have := Nat.two_pow_add_eq_or_of_lt (i := 8) (b := x) (by omega) v
  rw [show 2 ^ 8 * v = v * 256 from by omega] at this
  rw [this]
set_option maxHeartbeats 2000000 in
set_option maxRecDepth 100000 in
theorem getw_walk (w : World) (q N c : Nat) (f : Nat → Nat) (p : Nat) (h : ∀ j, j < N → w.cell? ⟨q, j, none⟩ = some (.int .u8 (f j))) (hf : ∀ j, f j < 256) (hp : 8 * p + 8 ≤ N) (hN : N ≤ 64) :
    Calls Tryd.prog 79 #[.slice (some ⟨q, 0, none⟩) N c, .int .i64 p] w fun e w' => e = .returned (.int .u64 (gv (fun j => f (8 * p + j)) 8)) ∧ w = w' := by
  have HN := Lib.hid (And.intro hp hN)
  have HC := Lib.hid h
  have HF := Lib.hid hf
  have e1 : wrap64 (8 * (p : Int)) = ((8 * p : Nat) : Int) := by unfold wrap64; omega
  have HE := Lib.hid e1
  clear h hp hN hf
  go_enter Tryd.func79, Tryd.ntmps79
  go_wp2_with (fail)
  go_loopw [5, 7] (fun v i y => ∃ j : Nat, i = .int .i64 j ∧ v = .int .u64 (gv (fun j => f (8 * p + j)) j) ∧ Hid (j ≤ 8 ∧ y = w)) (fun v i _ => 8 - (intOf i).toNat)
  case atStart => exact ⟨0, rfl, rfl, Lib.hid ⟨Nat.zero_le _, rfl⟩⟩
  case round =>
    obtain ⟨j, rfl, rfl, hp⟩ := hrel
    have HR := Lib.hid hp.out
    clear hp e1
    by_cases hlt : (j : Int) < 8
    · have e1 := HE.out
      have x1 := HR.out.2 ▸ HC.out (8 * p + j) (by have := HN.out; omega)
      have HJ := Lib.hid (And.intro (show j < 8 by omega) (show wrap64 ((j : Int) + 1) = ((j + 1 : Nat) : Int) by unfold wrap64; omega))
      have HG := Lib.hid (show gv (fun j => f (8 * p + j)) (j + 1) = gv (fun j => f (8 * p + j)) j * 256 + f (8 * p + j) from rfl)
      obtain ⟨P, hP⟩ : ∃ P, 8 * p = P := ⟨_, rfl⟩
      obtain ⟨J, hJ⟩ : ∃ J, P + j = J := ⟨_, rfl⟩
      rw [hP] at e1 x1
      rw [hJ] at x1
      have e2 : wrap64 ((P : Int) + j) = (J : Int) := by have := HN.out; unfold wrap64; omega
      have e5 : (J : Int) < N := by have := HN.out; omega
      go_wp2_with (fail)
      have hg := gv_lt (f := fun j => f (8 * p + j)) (fun k => HF.out (8 * p + k)) j
      have hfj := HF.out J
      have hv : gv (fun j => f (P + j)) j * 256 < 18446744073709551616 := by
        rw [hP] at hg
        have hj := HJ.out.1
        have : 256 ^ j ≤ 256 ^ 7 := Nat.pow_le_pow_right (by decide) (by omega)
        have e7 : 256 ^ 7 = 72057594037927936 := by decide
        have : gv (fun j => f (P + j)) j < 72057594037927936 := by omega
        omega
      have hgj := HG.out
      rw [hP, hJ] at hgj
      refine ⟨⟨j + 1, by simp, ?_, Lib.hid ⟨HJ.out.1, HR.out.2⟩⟩, by simp [intOf]; omega⟩
      rw [hP, hgj, or_w _ _ hv hfj]
    · obtain rfl : j = 8 := by have := HR.out.1; omega
      go_wp2_with (fail)
      exact bodyPost_ret (v := .int .u64 (gv (fun j => f (8 * p + j)) 8)) (by simp [results, Tryd.results79, go_sem]) rfl ⟨rfl, HR.out.2.symm⟩
end Rl
end Go.Proofs.YtjfpbponjhpdhaaDoor
