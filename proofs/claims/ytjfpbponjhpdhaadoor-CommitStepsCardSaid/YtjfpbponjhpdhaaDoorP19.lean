/- Merged of Ws Yx Yv Yy Opn. Own work. -/
import Derived.Test.YtjfpbponjhpdhaaDoorP18
import Derived.Test.YtjfpbponjhpdhaaDoorP17
import Derived.Deep.Slices
import Derived.Deep.Fields
import Derived.ChangeSame
import Derived.OpenShut
namespace Go.Proofs.YtjfpbponjhpdhaaDoor
open Go.RowKit
set_option linter.unusedVariables false
namespace W1
/-- word.Apply answers v. -/
def App (op a b c : Nat) (v : Nat) : Prop := v < 18446744073709551616 ∧ ∀ w, Calls Tryd.prog 59 #[.int .i64 op, .int .u64 a, .int .u64 b, .int .u64 c] w fun e w' => e = .returned (.tuple #[.int .u64 v, .nilIface]) ∧ ∃ k, w' = w.drewN k
theorem app_of {op a b c : Nat} {V : Int} (hv : U.Ok V) (h : ∀ w, Calls Tryd.prog 59 #[.int .i64 op, .int .u64 a, .int .u64 b, .int .u64 c] w fun e w' => e = .returned (.tuple #[.int .u64 V, .nilIface]) ∧ w = w') : ∃ v, App op a b c v := by
  unfold U.Ok at hv
  obtain ⟨v, rfl⟩ : ∃ v : Nat, V = v := ⟨V.toNat, by omega⟩
  exact ⟨v, by omega, fun w => (h w).mono fun _ _ ⟨he, hw⟩ => ⟨he, 0, hw.symm⟩⟩
theorem okU {a : Nat} (h : a < 18446744073709551616) : U.Ok (a : Int) := by unfold U.Ok; omega
theorem apply_ex (op a b c : Nat) (h1 : 1 ≤ op) (h25 : op ≤ 25) (ha : a < 18446744073709551616) (hb : b < 18446744073709551616) (hc : c < 18446744073709551616) : ∃ v, App op a b c v := by
  have hcase : op = 1 ∨ op = 2 ∨ op = 3 ∨ op = 4 ∨ op = 5 ∨ op = 6 ∨ op = 7 ∨ op = 8 ∨ op = 9 ∨ op = 10 ∨ op = 11 ∨ op = 12 ∨ op = 13 ∨ op = 14 ∨ op = 15 ∨ op = 16 ∨ op = 17 ∨ op = 18 ∨ op = 19 ∨ op = 20 ∨ op = 21 ∨ op = 22 ∨ op = 23 ∨ op = 24 ∨ op = 25 := by omega
  rcases hcase with rfl | rfl | rfl | rfl | rfl | rfl | rfl | rfl | rfl | rfl | rfl | rfl | rfl | rfl | rfl | rfl | rfl | rfl | rfl | rfl | rfl | rfl | rfl | rfl | rfl
  · exact app_of (U.add_ok a b) (fun w => app_add a b c w (okU ha) (okU hb))
  · exact app_of (U.sub_ok a b) (fun w => app_sub a b c w (okU ha) (okU hb))
  · exact app_of (U.mul_ok a b) (fun w => app_mul a b c w (okU ha) (okU hb))
  · exact app_of (U.div_ok (okU ha) (okU hb)) (fun w => app_div a b c w (okU ha) (okU hb))
  · exact app_of (U.sdiv_ok (okU ha) (okU hb)) (fun w => app_sdiv a b c w (okU ha) (okU hb))
  · exact app_of (U.mod_ok (okU ha) (okU hb)) (fun w => app_mod a b c w (okU ha) (okU hb))
  · exact app_of (U.smod_ok (okU ha) (okU hb)) (fun w => app_smod a b c w (okU ha) (okU hb))
  · refine ⟨if c = 0 then 0 else (a + b) % c, ?_, fun w => app_addmod a b c w ha hb hc⟩
    split
    · decide
    · exact Nat.lt_trans (Nat.mod_lt _ (by omega)) hc
  · refine ⟨if c = 0 then 0 else a * b % c, ?_, fun w => app_mulmod a b c w ha hb hc⟩
    split
    · decide
    · exact Nat.lt_trans (Nat.mod_lt _ (by omega)) hc
  · exact app_of (U.exp_ok (okU ha) (okU hb)) (fun w => apply_exp a b c w (okU ha) (okU hb))
  · exact app_of (U.sext_ok (okU ha) (okU hb)) (fun w => app_sext a b c w (okU ha) (okU hb))
  · exact app_of (U.byte_ok (okU ha) (okU hb)) (fun w => app_byte a b c w (okU ha) (okU hb))
  · exact app_of (U.shl_ok (okU ha) (okU hb)) (fun w => app_shl a b c w (okU ha) (okU hb))
  · exact app_of (U.shr_ok (okU ha) (okU hb)) (fun w => app_shr a b c w (okU ha) (okU hb))
  · exact app_of (U.sar_ok (okU ha) (okU hb)) (fun w => app_sar a b c w (okU ha) (okU hb))
  · exact app_of (U.b2_ok _) (fun w => app_lt a b c w (okU ha) (okU hb))
  · exact app_of (U.b2_ok _) (fun w => app_gt a b c w (okU ha) (okU hb))
  · exact app_of (U.b2_ok _) (fun w => app_slt a b c w (okU ha) (okU hb))
  · exact app_of (U.b2_ok _) (fun w => app_sgt a b c w (okU ha) (okU hb))
  · exact app_of (U.b2_ok _) (fun w => app_eq a b c w (okU ha) (okU hb))
  · exact app_of (U.b2_ok _) (fun w => app_isz a b c w (okU ha) (okU hb))
  · exact app_of (U.and_ok (okU ha)) (fun w => app_and a b c w (okU ha) (okU hb))
  · exact app_of (U.or_ok (okU ha) (okU hb)) (fun w => app_or a b c w (okU ha) (okU hb))
  · exact app_of (U.xor_ok (okU ha) (okU hb)) (fun w => app_xor a b c w (okU ha) (okU hb))
  · exact app_of (U.not_ok (okU ha)) (fun w => app_not a b c w (okU ha) (okU hb))
end W1
end Go.Proofs.YtjfpbponjhpdhaaDoor
namespace Go.Proofs.YtjfpbponjhpdhaaDoor
open Go.RowKit
set_option linter.unusedVariables false
set_option linter.unusedSimpArgs false
namespace Vm
open Kc
set_option maxHeartbeats 2000000 in
set_option maxRecDepth 100000 in
theorem step_app2 (w : World) (b s : Nat) (M : Mac) (x : Nat) (h : Pre w b M x) (hop : 1 ≤ pOp x ∧ pOp x ≤ 25) (v : Nat) (ec : Value) (hA : ∀ y, Calls Tryd.prog 59 #[.int .i64 (pOp x), .int .u64 (M.reg (pA x)), .int .u64 (M.reg (pB x)), .int .u64 (M.reg (pC x))] y fun e w' => e = .returned (.tuple #[.int .u64 v, ec]) ∧ ∃ k, w' = y.drewN k) :
    Calls Tryd.prog 36 #[.pointer (some ⟨b, 0, none⟩), .pointer (some ⟨s, 0, none⟩)] w fun e w' => e = .returned (.tuple #[]) ∧ IsMac w' b ({ setR M (pD x) v with pc := M.pc + 1 }) ∧ Kept (fun k => k = b) w w' := by
  have k3 : w.cell? ⟨b, 8209, none⟩ = some (.bool false) := h.hh ▸ h.mac.halted
  have k2 := h.mac.pc
  have tpc : decide (8192 ≤ (M.pc : Int)) = false := by have := h.pc; simp; omega
  have HP := Lib.hid h
  have hxb : x < 18446744073709551616 := h.hx ▸ h.ok.mem _
  have HXB := Lib.hid hxb
  clear hxb
  have to0 : ((pOp x : Int) == 0) = false := by simp; omega
  have to1 : decide ((pOp x : Int) < 26) = true := by simp; omega
  have HA := Lib.hid hA
  clear hA hop
  clear h
  go_enter Tryd.func36, Tryd.ntmps36
  go_upto_region 3 with (fail)
  have NE : Nonempty (Wd (fun z => Below w.heap.size w z)) := ⟨⟨w.drew, (Below.refl _ _).drew⟩⟩
  have kpc : ∀ z : Wd (fun z => Below w.heap.size w z), z.val.cell? ⟨b, 8208, none⟩ = some (.int .u64 (M.pc : Int)) := fun z => keep1 z.ok HP.out.mac.pc
  have km : ∀ z : Wd (fun z => Below w.heap.size w z), z.val.cell? ⟨b, M.pc, none⟩ = some (.int .u64 (x : Int)) := fun z => keep1 z.ok (HP.out.hx ▸ HP.out.mac.mem HP.out.pc)
  have hlt : (M.pc : Int) < 8192 := by have := HP.out.pc; omega
  have hpv : Hid (partsV x = .tuple #[.int .i64 (pOp x), .int .i64 (pD x), .int .i64 (pA x), .int .i64 (pB x), .int .i64 (pC x), .int .i64 (pN x), .bool true]) := Lib.hid (if_pos HP.out.pok)
  have Q1 := Lib.hid (fun z : Wd (fun z => Below w.heap.size w z) => in_of_below z (fun y hb => bl z.ok hb) (hpv.out ▸ parts_walk z.val x HXB.out))
  clear k2 k3 tpc
  refine wp_region_in (fun z => Below w.heap.size w z) (by kernel_rfl) (by kernel_rfl) (Below.refl _ _).drew ?_
  repeat (go_big_quiet_step (with_reducible exact Q1.out _))
  refine wpQuiet_nil ?_
  rintro y0 ⟨z, rfl⟩
  have HZ := Lib.hid (HP.out.mac.below z.ok)
  have HB := Lib.hid z.ok
  clear Q1 kpc km NE hlt
  generalize z.val = y at *
  have ha : (pA x : Int) < 16 := by have := pA_lt x; omega
  have hb : (pB x : Int) < 16 := by have := pB_lt x; omega
  have hc : (pC x : Int) < 16 := by have := pC_lt x; omega
  have hd : (pD x : Int) < 16 := by have := pD_lt x; omega
  go_upto_region 12 with (fail)
  have HS0 : Hid (IsMac y.drew b M ∧ Kept (fun k => k = b) w y.drew) := Lib.hid ⟨HZ.out.kept (Wt.kept_drew y) id, (Kept.ofBelow HB.out).drew⟩
  refine wp_region_oz (fun z : World => IsMac z b M ∧ Kept (fun k => k = b) w z) 24 (.take 0 (.take 1 (.take 2 (.take 3 (.take 4 (.take 5 (.take 6 (.take 7 (.take 8 (.take 9 (.take 10 (.take 11 (.take 12 (.take 13 (.take 14 (.take 15 (.take 16 (.take 17 (.free 22 (.one 18 (.take 19 (.take 20 (.free 21 (.free 23 (.one 24 .done))))))))))))))))))))))))) (by kernel_rfl) (by kernel_rfl) HS0.out ?_
  generalize y.drew = y0 at *
  refine oz_tk (some 83) (.pointer (some ⟨b, 8192, none⟩)) rfl rfl (by go_simp) (fun _ _ => by simp [execOp, go_sem]) ?_
  simp only [Act.put, pS]
  refine oz_tk (some 84) (.int .i64 (pD x)) rfl rfl (by go_simp) (fun _ _ => by simp [execOp, go_sem]) ?_
  simp only [Act.put, pS]
  refine oz_tk (some 85) (.int .i64 (pOp x)) rfl rfl (by go_simp) (fun _ _ => by simp [execOp, go_sem]) ?_
  simp only [Act.put, pS]
  refine oz_tk (some 86) (.pointer (some ⟨b, 8192, none⟩)) rfl rfl (by go_simp) (fun _ _ => by simp [execOp, go_sem]) ?_
  simp only [Act.put, pS]
  refine oz_tk (some 87) (.int .i64 (pA x)) rfl rfl (by go_simp) (fun _ _ => by simp [execOp, go_sem]) ?_
  simp only [Act.put, pS]
  refine oz_tk (some 88) (.pointer (some ⟨b, 8192, none⟩)) rfl rfl (by go_simp) (fun _ _ => by simp [execOp, go_sem]) ?_
  simp only [Act.put, pS]
  refine oz_tk (some 89) (.pointer (some ⟨b, (8192 + pA x), none⟩)) rfl rfl (by go_simp) (fun _ _ => by have h := ix16 b (pA x) (pA_lt x); simp [execOp, go_sem, h, Result.andThen]) ?_
  simp only [Act.put, pS]
  refine oz_ld (some 90) 33 (.tmp 89) (.pointer (some ⟨b, (8192 + pA x), none⟩)) (.int .u64 (M.reg (pA x))) rfl rfl (by go_simp) rfl rfl (fun y hy => by have h := hy.1.reg (pA_lt x); simp [Instr.loadAt, go_sem, h, Tryd.underlying33]) ?_
  simp only [Act.put, pS]
  refine oz_tk (some 91) (.pointer (some ⟨b, 8192, none⟩)) rfl rfl (by go_simp) (fun _ _ => by simp [execOp, go_sem]) ?_
  simp only [Act.put, pS]
  refine oz_tk (some 92) (.int .i64 (pB x)) rfl rfl (by go_simp) (fun _ _ => by simp [execOp, go_sem]) ?_
  simp only [Act.put, pS]
  refine oz_tk (some 93) (.pointer (some ⟨b, 8192, none⟩)) rfl rfl (by go_simp) (fun _ _ => by simp [execOp, go_sem]) ?_
  simp only [Act.put, pS]
  refine oz_tk (some 94) (.pointer (some ⟨b, (8192 + pB x), none⟩)) rfl rfl (by go_simp) (fun _ _ => by have h := ix16 b (pB x) (pB_lt x); simp [execOp, go_sem, h, Result.andThen]) ?_
  simp only [Act.put, pS]
  refine oz_ld (some 95) 33 (.tmp 94) (.pointer (some ⟨b, (8192 + pB x), none⟩)) (.int .u64 (M.reg (pB x))) rfl rfl (by go_simp) rfl rfl (fun y hy => by have h := hy.1.reg (pB_lt x); simp [Instr.loadAt, go_sem, h, Tryd.underlying33]) ?_
  simp only [Act.put, pS]
  refine oz_tk (some 96) (.pointer (some ⟨b, 8192, none⟩)) rfl rfl (by go_simp) (fun _ _ => by simp [execOp, go_sem]) ?_
  simp only [Act.put, pS]
  refine oz_tk (some 97) (.int .i64 (pC x)) rfl rfl (by go_simp) (fun _ _ => by simp [execOp, go_sem]) ?_
  simp only [Act.put, pS]
  refine oz_tk (some 98) (.pointer (some ⟨b, 8192, none⟩)) rfl rfl (by go_simp) (fun _ _ => by simp [execOp, go_sem]) ?_
  simp only [Act.put, pS]
  refine oz_tk (some 99) (.pointer (some ⟨b, (8192 + pC x), none⟩)) rfl rfl (by go_simp) (fun _ _ => by have h := ix16 b (pC x) (pC_lt x); simp [execOp, go_sem, h, Result.andThen]) ?_
  simp only [Act.put, pS]
  refine oz_ld (some 100) 33 (.tmp 99) (.pointer (some ⟨b, (8192 + pC x), none⟩)) (.int .u64 (M.reg (pC x))) rfl rfl (by go_simp) rfl rfl (fun y hy => by have h := hy.1.reg (pC_lt x); simp [Instr.loadAt, go_sem, h, Tryd.underlying33]) ?_
  simp only [Act.put, pS]
  refine oz_fr (some 104) (.pointer (some ⟨b, 8192, none⟩)) rfl rfl (by go_simp) (fun _ => by simp [execOp, go_sem]) ?_
  simp only [Act.put, pS]
  refine oz_f rfl (by go_simp) fun K hK => ?_
  go_simp
  refine (HA.out y0).mono ?_
  rintro e y1 ⟨he, k, hy1⟩
  obtain rfl : e = _ := he
  have HS1 : Hid (IsMac y1 b M ∧ Kept (fun k => k = b) w y1) := Lib.hid (by rw [hy1]; exact ⟨HS0.out.1.kept (Kept.drewN (Kept.refl (fun _ => False) _) k) id, HS0.out.2.drewN k⟩)
  refine hK _ _ HS1.out ?_
  clear hK K hy1
  have HS : Hid (IsMac (y1.setCell ⟨b, 8192 + pD x, none⟩ (.int .u64 (v : Int))) b (setR M (pD x) v)) := Lib.hid (HS1.out.1.setReg (pD_lt x) _)
  have HK : Hid (Kept (fun k => k = b) w (y1.setCell ⟨b, 8192 + pD x, none⟩ (.int .u64 (v : Int)))) := Lib.hid (kept_set (S := fun k => k = b) HS1.out.2 b _ rfl _)
  refine oz_tk (some 82) (.tuple #[.int .u64 v, ec]) rfl rfl (by go_simp) (fun _ _ => by simp [execOp, go_sem]) ?_
  simp only [Act.put, pS]
  refine oz_tk (some 102) (.int .u64 v) rfl rfl (by go_simp) (fun _ _ => by simp [execOp, go_sem]) ?_
  simp only [Act.put, pS]
  refine oz_fr (some 103) (ec) rfl rfl (by go_simp) (fun _ => by simp [execOp, go_sem]) ?_
  simp only [Act.put, pS]
  refine oz_fr (some 105) (.pointer (some ⟨b, (8192 + pD x), none⟩)) rfl rfl (by go_simp) (fun _ => by have h := ix16 b (pD x) (pD_lt x); simp [execOp, go_sem, h, Result.andThen]) ?_
  simp only [Act.put, pS]
  have kd := HS1.out.1.reg (pD_lt x)
  have fd := HS1.out.1.fz (8192 + pD x)
  refine oz_z rfl (by go_simp) fun K hK => ?_
  go_simp
  refine hK _ _ ?_
  clear hK K kd fd
  refine oz_done (NoPanic.normal ?_)
  generalize y1.setCell ⟨b, 8192 + pD x, none⟩ (.int .u64 (v : Int)) = y2 at *
  have kp := HS.out.pc
  have fp := HS.out.fz 8208
  have HW : Hid (IntKind.u64.wrap ((M.pc : Int) + 1) = ((M.pc + 1 : Nat) : Int)) := Lib.hid (wrap_pc HP.out.pc)
  have H9 : Hid (IsMac (y2.setCell ⟨b, 8208, none⟩ (.int .u64 (IntKind.u64.wrap ((M.pc : Int) + 1)))) b { setR M (pD x) v with pc := M.pc + 1 }) := Lib.hid (by rw [HW.out]; exact HS.out.setPc (M.pc + 1))
  have K9 := Lib.hid (kept_set (S := fun k => k = b) HK.out b 8208 rfl (.int .u64 (IntKind.u64.wrap ((M.pc : Int) + 1))))
  generalize hpc : (M.pc : Int) = PC at *
  go_wp2_with (fail)
  subst hpc
  exact bodyPost_end (v := .tuple #[]) (by simp [results, Tryd.results36, go_sem]) rfl ⟨rfl, H9.out, K9.out⟩
set_option maxHeartbeats 1000000 in
set_option maxRecDepth 100000 in
theorem step_still (w : World) (b s : Nat) (M : Mac) (hm : IsMac w b M) (hh : M.halted = true) :
    Calls Tryd.prog 36 #[.pointer (some ⟨b, 0, none⟩), .pointer (some ⟨s, 0, none⟩)] w fun e w' => e = .returned (.tuple #[]) ∧ IsMac w' b M ∧ Kept (fun k => k = b) w w' := by
  have k3 : w.cell? ⟨b, 8209, none⟩ = some (.bool true) := hh ▸ hm.halted
  have HM := Lib.hid hm
  clear hm hh
  go_enter Tryd.func36, Tryd.ntmps36
  go_wp2_with (fail)
  exact bodyPost_ret (v := .tuple #[]) (by simp [results, Tryd.results36, go_sem]) rfl ⟨rfl, HM.out, Kept.refl _ _⟩
set_option maxHeartbeats 1000000 in
set_option maxRecDepth 100000 in
theorem step_far (w : World) (b s : Nat) (M : Mac) (hm : IsMac w b M) (hh : M.halted = false) (hpc : 8192 ≤ M.pc) :
    Calls Tryd.prog 36 #[.pointer (some ⟨b, 0, none⟩), .pointer (some ⟨s, 0, none⟩)] w fun e w' => e = .returned (.tuple #[]) ∧ IsMac w' b (stopM M 18446744073709551614) ∧ Kept (fun k => k = b) w w' := by
  have k3 : w.cell? ⟨b, 8209, none⟩ = some (.bool false) := hh ▸ hm.halted
  have k2 := hm.pc
  have tpc : decide (8192 ≤ (M.pc : Int)) = true := by simp; omega
  have HC := Lib.hid (stop_wrong w b M hm)
  clear hm hpc
  go_enter Tryd.func36, Tryd.ntmps36
  go_wp2_with (go_at_call 57; (with_reducible refine HC.out.mono ?_); rintro e y2 ⟨he, hm, hk⟩; obtain rfl : e = _ := he; have HM2 := Lib.hid hm; have HK2 := Lib.hid hk; clear hm hk)
  exact bodyPost_ret (v := .tuple #[]) (by simp [results, Tryd.results36, go_sem]) rfl ⟨rfl, HM2.out, HK2.out⟩
set_option maxHeartbeats 2000000 in
set_option maxRecDepth 100000 in
theorem step_bad (w : World) (b s : Nat) (M : Mac) (x : Nat) (hm : IsMac w b M) (hok : OkM M) (hh : M.halted = false) (hpc : M.pc < 8192) (hx : M.mem M.pc = x) (hpok : pOk x = false) :
    Calls Tryd.prog 36 #[.pointer (some ⟨b, 0, none⟩), .pointer (some ⟨s, 0, none⟩)] w fun e w' => e = .returned (.tuple #[]) ∧ IsMac w' b (stopM M 18446744073709551614) ∧ Kept (fun k => k = b) w w' := by
  have k3 : w.cell? ⟨b, 8209, none⟩ = some (.bool false) := hh ▸ hm.halted
  have k2 := hm.pc
  have tpc : decide (8192 ≤ (M.pc : Int)) = false := by simp; omega
  have HP := Lib.hid hm
  have HXB := Lib.hid (hx ▸ hok.mem _ : x < 18446744073709551616)
  have HX := Lib.hid hx
  have HPC := Lib.hid hpc
  have hpv : Hid (partsV x = .tuple #[.int .i64 0, .int .i64 0, .int .i64 0, .int .i64 0, .int .i64 0, .int .i64 0, .bool false]) := Lib.hid (if_neg (by rw [hpok]; decide))
  clear hm hpc hx hok
  go_enter Tryd.func36, Tryd.ntmps36
  go_upto_region 3 with (fail)
  have NE : Nonempty (Wd (fun z => Below w.heap.size w z)) := ⟨⟨w.drew, (Below.refl _ _).drew⟩⟩
  have kpc : ∀ z : Wd (fun z => Below w.heap.size w z), z.val.cell? ⟨b, 8208, none⟩ = some (.int .u64 (M.pc : Int)) := fun z => keep1 z.ok HP.out.pc
  have km : ∀ z : Wd (fun z => Below w.heap.size w z), z.val.cell? ⟨b, M.pc, none⟩ = some (.int .u64 (x : Int)) := fun z => keep1 z.ok (HX.out ▸ HP.out.mem HPC.out)
  have hlt : (M.pc : Int) < 8192 := by have := HPC.out; omega
  have Q1 := Lib.hid (fun z : Wd (fun z => Below w.heap.size w z) => in_of_below z (fun y hb => bl z.ok hb) (hpv.out ▸ parts_walk z.val x HXB.out))
  clear k2 k3 tpc
  refine wp_region_in (fun z => Below w.heap.size w z) (by kernel_rfl) (by kernel_rfl) (Below.refl _ _).drew ?_
  repeat (go_big_quiet_step (with_reducible exact Q1.out _))
  refine wpQuiet_nil ?_
  rintro y0 ⟨z, rfl⟩
  have HZ := Lib.hid (HP.out.below z.ok)
  have HB := Lib.hid z.ok
  clear Q1 kpc km NE hlt
  generalize z.val = y at *
  have HC := Lib.hid (stop_wrong y b M HZ.out)
  go_wp2_with (go_at_call 57; (with_reducible refine HC.out.mono ?_); rintro e y2 ⟨he, hm, hk⟩; obtain rfl : e = _ := he; have HM2 := Lib.hid hm; have HK2 := Lib.hid hk; clear hm hk)
  exact bodyPost_ret (v := .tuple #[]) (by simp [results, Tryd.results36, go_sem]) rfl ⟨rfl, HM2.out, (Kept.ofBelow HB.out).trans HK2.out fun _ _ h => h⟩
set_option maxHeartbeats 1000000 in
set_option maxRecDepth 100000 in
theorem exch34_far1 (w : World) (b s fr tw : Nat) (M : Mac) (hm : IsMac w b M) (hf : 8184 < fr) :
    Calls Tryd.prog 62 #[.pointer (some ⟨b, 0, none⟩), .pointer (some ⟨s, 0, none⟩), .int .i64 34, .int .u64 fr, .int .u64 tw] w fun e w' => e = .returned (.tuple #[]) ∧ IsMac w' b (stopM M 18446744073709551614) ∧ Kept (fun k => k = b) w w' := by
  have t1 : decide ((8184 : Int) < (fr : Int)) = true := by simp; omega
  have HC := Lib.hid (stop_wrong w b M hm)
  clear hm hf
  go_enter Tryd.func62, Tryd.ntmps62
  go_wp2_with (go_at_call 57; (with_reducible refine HC.out.mono ?_); rintro e y2 ⟨he, hm, hk⟩; obtain rfl : e = _ := he; have HM2 := Lib.hid hm; have HK2 := Lib.hid hk; clear hm hk)
  exact bodyPost_ret (v := .tuple #[]) (by simp [results, Tryd.results62, go_sem]) rfl ⟨rfl, HM2.out, HK2.out⟩
set_option maxHeartbeats 1000000 in
set_option maxRecDepth 100000 in
theorem exch34_far2 (w : World) (b s fr tw : Nat) (M : Mac) (hm : IsMac w b M) (hf : fr ≤ 8184) (ht : 8188 < tw) :
    Calls Tryd.prog 62 #[.pointer (some ⟨b, 0, none⟩), .pointer (some ⟨s, 0, none⟩), .int .i64 34, .int .u64 fr, .int .u64 tw] w fun e w' => e = .returned (.tuple #[]) ∧ IsMac w' b (stopM M 18446744073709551614) ∧ Kept (fun k => k = b) w w' := by
  have t1 : decide ((8184 : Int) < (fr : Int)) = false := by simp; omega
  have t2 : decide ((8188 : Int) < (tw : Int)) = true := by simp; omega
  have HC := Lib.hid (stop_wrong w b M hm)
  clear hm hf ht
  go_enter Tryd.func62, Tryd.ntmps62
  go_wp2_with (go_at_call 57; (with_reducible refine HC.out.mono ?_); rintro e y2 ⟨he, hm, hk⟩; obtain rfl : e = _ := he; have HM2 := Lib.hid hm; have HK2 := Lib.hid hk; clear hm hk)
  exact bodyPost_ret (v := .tuple #[]) (by simp [results, Tryd.results62, go_sem]) rfl ⟨rfl, HM2.out, HK2.out⟩
set_option maxHeartbeats 1000000 in
set_option maxRecDepth 100000 in
theorem exch35_far1 (w : World) (b s fr tw : Nat) (M : Mac) (hm : IsMac w b M) (hf : 8188 < fr) :
    Calls Tryd.prog 62 #[.pointer (some ⟨b, 0, none⟩), .pointer (some ⟨s, 0, none⟩), .int .i64 35, .int .u64 fr, .int .u64 tw] w fun e w' => e = .returned (.tuple #[]) ∧ IsMac w' b (stopM M 18446744073709551614) ∧ Kept (fun k => k = b) w w' := by
  have t1 : decide ((8188 : Int) < (fr : Int)) = true := by simp; omega
  have HC := Lib.hid (stop_wrong w b M hm)
  clear hm hf
  go_enter Tryd.func62, Tryd.ntmps62
  go_wp2_with (go_at_call 57; (with_reducible refine HC.out.mono ?_); rintro e y2 ⟨he, hm, hk⟩; obtain rfl : e = _ := he; have HM2 := Lib.hid hm; have HK2 := Lib.hid hk; clear hm hk)
  exact bodyPost_ret (v := .tuple #[]) (by simp [results, Tryd.results62, go_sem]) rfl ⟨rfl, HM2.out, HK2.out⟩
set_option maxHeartbeats 1000000 in
set_option maxRecDepth 100000 in
theorem exch35_far2 (w : World) (b s fr tw : Nat) (M : Mac) (hm : IsMac w b M) (hf : fr ≤ 8188) (ht : 8184 < tw) :
    Calls Tryd.prog 62 #[.pointer (some ⟨b, 0, none⟩), .pointer (some ⟨s, 0, none⟩), .int .i64 35, .int .u64 fr, .int .u64 tw] w fun e w' => e = .returned (.tuple #[]) ∧ IsMac w' b (stopM M 18446744073709551614) ∧ Kept (fun k => k = b) w w' := by
  have t1 : decide ((8188 : Int) < (fr : Int)) = false := by simp; omega
  have t2 : decide ((8184 : Int) < (tw : Int)) = true := by simp; omega
  have HC := Lib.hid (stop_wrong w b M hm)
  clear hm hf ht
  go_enter Tryd.func62, Tryd.ntmps62
  go_wp2_with (go_at_call 57; (with_reducible refine HC.out.mono ?_); rintro e y2 ⟨he, hm, hk⟩; obtain rfl : e = _ := he; have HM2 := Lib.hid hm; have HK2 := Lib.hid hk; clear hm hk)
  exact bodyPost_ret (v := .tuple #[]) (by simp [results, Tryd.results62, go_sem]) rfl ⟨rfl, HM2.out, HK2.out⟩
end Vm
end Go.Proofs.YtjfpbponjhpdhaaDoor
namespace Go.Proofs.YtjfpbponjhpdhaaDoor
open Go.RowKit
set_option linter.unusedVariables false
set_option linter.unusedSimpArgs false
namespace Vm
open Kc Mk Wt
/-- A machine and a store, both new since W. -/
structure Or (W : World) (b s kb fb : Nat) (M : Mac) (S : Sto) (y : World) : Prop where
  mac : IsMac y b M
  st : ∃ T' : Nat → Prop, IsSt y T' s kb fb S ∧ ∀ j, T' j → W.heap.size ≤ j ∧ j < y.heap.size ∧ j ≠ b
  below : Below W.heap.size W y
  kt : Laid.KTab W
  hb : W.heap.size ≤ b ∧ b ≠ kb ∧ b ≠ fb ∧ W.heap.size ≤ kb ∧ W.heap.size ≤ fb
theorem ok_exL {M : Mac} (h : OkM M) (tq n : Nat) (g : Nat → Nat) (hg : ∀ i, g i < 18446744073709551616) : OkM (exL M tq n g) := by
  refine ⟨fun i => ?_, h.reg, h.pc, h.exit⟩
  unfold exL
  simp only
  split
  · exact hg _
  · exact h.mem i
section
variable {X f : Nat → Nat} {F D B : Nat}
end
end Vm
end Go.Proofs.YtjfpbponjhpdhaaDoor
namespace Go.Proofs.YtjfpbponjhpdhaaDoor
open Go.RowKit
set_option linter.unusedVariables false
set_option linter.unusedSimpArgs false
namespace Vm
open Kc Mk Wt
/-- A machine and a store beside it; of the world W nothing but U was written. -/
structure Om (W : World) (U : Nat → Prop) (b s kb fb : Nat) (M : Mac) (S : Sto) (y : World) : Prop where
  mac : IsMac y b M
  st : ∃ T : Nat → Prop, IsSt y T s kb fb S ∧ ∀ j, T j → (U j ∨ W.heap.size ≤ j) ∧ j < y.heap.size ∧ j ≠ b
  kept : Kept U W y
  kt : Laid.KTab W
  uk : ¬ U 0
  hb : U b ∧ b ≠ kb ∧ b ≠ fb ∧ U kb ∧ U fb
theorem Om.only {W w' y : World} {U : Nat → Prop} {b s kb fb : Nat} {M M' : Mac} {S : Sto} (h : Om W U b s kb fb M S y) (hm : IsMac w' b M') (hk : Kept (fun k => k = b) y w') : Om W U b s kb fb M' S w' := by
  obtain ⟨T, hst, hT⟩ := h.st
  have z3 := hk.size
  exact ⟨hm, ⟨T, hst.kept hk (fun j hj e => (hT j hj).2.2 e) (Ne.symm h.hb.2.1) (Ne.symm h.hb.2.2.1), fun j hj => ⟨(hT j hj).1, by have := (hT j hj).2.1; omega, (hT j hj).2.2⟩⟩,
    h.kept.trans hk fun i _ hi => hi ▸ h.hb.1, h.kt, h.uk, h.hb⟩
theorem Om.below {W y y' : World} {U : Nat → Prop} {b s kb fb : Nat} {M : Mac} {S : Sto} (h : Om W U b s kb fb M S y) (hb : Below y.heap.size y y') : Om W U b s kb fb M S y' := by
  obtain ⟨T, hst, hT⟩ := h.st
  have z3 := hb.size
  exact ⟨h.mac.below hb, ⟨T, hst.below hb, fun j hj => ⟨(hT j hj).1, by have := (hT j hj).2.1; omega, (hT j hj).2.2⟩⟩, h.kept.trans (Kept.ofBelow hb) (fun _ _ h => h.elim) (T := fun _ => False), h.kt, h.uk, h.hb⟩
theorem Om.ktab {W y : World} {U : Nat → Prop} {b s kb fb : Nat} {M : Mac} {S : Sto} (h : Om W U b s kb fb M S y) : Laid.KTab y := fun i hi => h.kept.cell h.uk (h.kt i hi)
section
variable {W y : World} {U : Nat → Prop} {b s kb fb : Nat} {M : Mac} {S : Sto} {x : Nat}
theorem om34 (h : Om W U b s kb fb M S y) (hok : OkM M) (hh : M.halted = false) (hpc : M.pc < 8192) (hx : M.mem M.pc = x) (hpok : pOk x = true) (hop : pOp x = 34) (hr : M.reg (pA x) + 8 ≤ 8192) (hw : M.reg (pB x) + 4 ≤ 8192) (t : Px) (ht' : pxW 8 (fun i => M.mem (M.reg (pA x) + i)) = t) :
    Calls Tryd.prog 36 #[.pointer (some ⟨b, 0, none⟩), .pointer (some ⟨s, 0, none⟩)] y fun e w' => e = .returned (.tuple #[]) ∧ Om W U b s kb fb { exL M (M.reg (pB x)) 4 (wd (ht (hs t))) with pc := M.pc + 1 } ⟨putM S.pres (hs t) t, S.asked⟩ w' := by
  obtain ⟨T, hst, hT⟩ := h.st
  have hl := hst.kin.lt
  have hF : ∀ j, Foot T kb fb j → (U j ∨ W.heap.size ≤ j) ∧ j ≠ b := fun j hj => by
    rcases hj with hj | hj | hj
    · exact ⟨(hT j hj).1, (hT j hj).2.2⟩
    · rw [hj]; exact ⟨.inl h.hb.2.2.2.1, Ne.symm h.hb.2.1⟩
    · rw [hj]; exact ⟨.inl h.hb.2.2.2.2, Ne.symm h.hb.2.2.1⟩
  refine (step_exch y b s M x ⟨h.mac, hok, hh, hpc, hx, hpok⟩ (.inl hop) (fun y1 w' => Om W U b s kb fb { exL M (M.reg (pB x)) 4 (wd (ht (hs t))) with pc := M.pc + 1 } ⟨putM S.pres (hs t) t, S.asked⟩ w') (fun y1 hb1 => ?_)).mono ?_
  · rw [hop, show ((34 : Nat) : Int) = 34 from rfl]
    refine (exch34_true b s (M.reg (pA x)) (M.reg (pB x)) M (ht (hs t)) y1 (Foot T kb fb) (fun ya z => Below y.heap.size y ya ∧ IsSt z T s kb fb ⟨putM S.pres (hs t) t, S.asked⟩ ∧ Kept (Foot T kb fb) ya z) (h.mac.below hb1) hok.mem hr hw hpc (fun e => (hF b e).2 rfl) (fun ya hba => ?_) (fun ya z _ hr => hr.2.2)).mono ?_
    · rw [ht']
      have hB := bl hb1 hba
      refine (exd_add T s kb fb S t ya (h.below hB).ktab (hst.below hB) (fun k hk => ?_)).mono ?_
      · have h1 := hB.size
        have h2 := (hT k hk).2.1
        omega
      · rintro e w' ⟨he, h1, h2⟩
        exact ⟨he, hB, h1, h2⟩
    · rintro e w' ⟨he, ya, hba, z, ⟨hB, h1, h2⟩, hk, hm⟩
      have z1 := hB.size
      have z2 := h2.size
      have z3 := hk.size
      have z4 := h.kept.size
      refine ⟨he, hm, ⟨T, h1.kept hk (fun j hj e => (hT j hj).2.2 e) (Ne.symm h.hb.2.1) (Ne.symm h.hb.2.2.1), fun j hj => ⟨(hT j hj).1, by have := (hT j hj).2.1; omega, (hT j hj).2.2⟩⟩, ?_, h.kt, h.uk, h.hb⟩
      refine (((h.kept.trans (Kept.ofBelow hB) (fun _ _ h => h.elim) (T := fun _ => False)).trans h2 fun i hi hf => ?_).trans hk fun i _ hi => hi ▸ h.hb.1)
      rcases (hF i hf).1 with h9 | h9
      · exact h9
      · omega
  · rintro e w' ⟨he, _, _, h⟩
    exact ⟨he, h⟩
theorem om35 (h : Om W U b s kb fb M S y) (hok : OkM M) (hh : M.halted = false) (hpc : M.pc < 8192) (hx : M.mem M.pc = x) (hpok : pOk x = true) (hop : pOp x = 35) (hr : M.reg (pA x) + 4 ≤ 8192) (hw : M.reg (pB x) + 8 ≤ 8192) (hn : S.asked.length < 1073741824) (t : Px) (ht' : pxW 4 (fun i => M.mem (M.reg (pA x) + i)) = t) :
    Calls Tryd.prog 36 #[.pointer (some ⟨b, 0, none⟩), .pointer (some ⟨s, 0, none⟩)] y fun e w' => e = .returned (.tuple #[]) ∧ Om W U b s kb fb (if Wt.has S.pres t then { exL M (M.reg (pB x)) 8 (wd ((Wt.look S.pres t).getD zp)) with pc := M.pc + 1 } else stopM M 18446744073709551615) ⟨S.pres, askL S.asked t⟩ w' := by
  obtain ⟨T, hst, hT⟩ := h.st
  have hl := hst.kin.lt
  have z0 := h.mac.lt
  have z4 := h.kept.size
  obtain ⟨MM, hMM⟩ : ∃ MM, (if Wt.has S.pres t then { exL M (M.reg (pB x)) 8 (wd ((Wt.look S.pres t).getD zp)) with pc := M.pc + 1 } else stopM M 18446744073709551615) = MM := ⟨_, rfl⟩
  rw [hMM]
  have fin : ∀ (ya z w' : World), Below y.heap.size y ya → (∃ T' : Nat → Prop, IsSt z T' s kb fb ⟨S.pres, askL S.asked t⟩ ∧ (∀ j, T' j → (T j ∨ ya.heap.size ≤ j) ∧ j < z.heap.size) ∧ Kept T ya z) → Kept (fun k => k = b) z w' → IsMac w' b MM → Om W U b s kb fb MM ⟨S.pres, askL S.asked t⟩ w' := by
    rintro ya z w' hB ⟨T', h1, h2, h3⟩ hk hm
    have z1 := hB.size
    have z2 := h3.size
    have z3 := hk.size
    have hT' : ∀ j, T' j → (U j ∨ W.heap.size ≤ j) ∧ j < z.heap.size ∧ j ≠ b := fun j hj => by
      have hj2 := (h2 j hj).2
      rcases (h2 j hj).1 with h9 | h9
      · exact ⟨(hT j h9).1, hj2, (hT j h9).2.2⟩
      · exact ⟨.inr (by omega), hj2, by omega⟩
    refine ⟨hm, ⟨T', h1.kept hk (fun j hj e => (hT' j hj).2.2 e) (Ne.symm h.hb.2.1) (Ne.symm h.hb.2.2.1), fun j hj => ⟨(hT' j hj).1, by have := (hT' j hj).2.1; omega, (hT' j hj).2.2⟩⟩, ?_, h.kt, h.uk, h.hb⟩
    refine (((h.kept.trans (Kept.ofBelow hB) (fun _ _ h => h.elim) (T := fun _ => False)).trans h3 fun i hi hf => ?_).trans hk fun i _ hi => hi ▸ h.hb.1)
    rcases (hT i hf).1 with h9 | h9
    · exact h9
    · omega
  refine (step_exch y b s M x ⟨h.mac, hok, hh, hpc, hx, hpok⟩ (.inr hop) (fun y1 w' => Om W U b s kb fb MM ⟨S.pres, askL S.asked t⟩ w') (fun y1 hb1 => ?_)).mono ?_
  · rw [hop, show ((35 : Nat) : Int) = 35 from rfl]
    have hX : ∀ ya, Below y1.heap.size y1 ya → Calls Tryd.prog 78 #[.pointer (some ⟨s, 0, none⟩), .int .i64 35, pv (pxW 4 fun i => M.mem (M.reg (pA x) + i))] ya fun e w' => e = .returned (.tuple #[pv ((Wt.look S.pres t).getD zp), .bool (Wt.has S.pres t)]) ∧ (Below y.heap.size y ya ∧ ∃ T' : Nat → Prop, IsSt w' T' s kb fb ⟨S.pres, askL S.asked t⟩ ∧ (∀ j, T' j → (T j ∨ ya.heap.size ≤ j) ∧ j < w'.heap.size) ∧ Kept T ya w') := fun ya hba => by
      rw [ht']
      have hB := bl hb1 hba
      refine (exd_get T s kb fb S t ya (hst.below hB) (fun k hk => ?_) hn).mono ?_
      · have h1 := hB.size
        have h2 := (hT k hk).2.1
        omega
      · rintro e w' ⟨he, h1⟩
        exact ⟨he, hB, h1⟩
    cases hc : Wt.has S.pres t with
    | true =>
      rw [hc] at hX hMM
      refine (exch35_true b s (M.reg (pA x)) (M.reg (pB x)) M _ y1 T _ (h.mac.below hb1) hok.mem hr hw hpc (fun e => (hT b e).2.2 rfl) hX (fun ya z _ ⟨_, _, _, _, hr⟩ => hr)).mono ?_
      rintro e w' ⟨he, ya, hba, z, ⟨hB, h1⟩, hk, hm⟩
      rw [if_pos rfl] at hMM
      exact ⟨he, fin ya z w' hB h1 hk (hMM ▸ hm)⟩
    | false =>
      rw [hc] at hX hMM
      refine (exch35_false b s (M.reg (pA x)) (M.reg (pB x)) M _ y1 T _ (h.mac.below hb1) hok.mem hr hw hpc (fun e => (hT b e).2.2 rfl) hX (fun ya z _ ⟨_, _, _, _, hr⟩ => hr)).mono ?_
      rintro e w' ⟨he, ya, hba, z, ⟨hB, h1⟩, hk, hm⟩
      rw [if_neg (by decide)] at hMM
      exact ⟨he, fin ya z w' hB h1 hk (hMM ▸ hm)⟩
  · rintro e w' ⟨he, _, _, h⟩
    exact ⟨he, h⟩
/-- An exchange that is out of range. -/
theorem omFar (h : Om W U b s kb fb M S y) (hok : OkM M) (hh : M.halted = false) (hpc : M.pc < 8192) (hx : M.mem M.pc = x) (hpok : pOk x = true) (hop : pOp x = 34 ∨ pOp x = 35)
    (hE : ∀ y, IsMac y b M → Calls Tryd.prog 62 #[.pointer (some ⟨b, 0, none⟩), .pointer (some ⟨s, 0, none⟩), .int .i64 (pOp x), .int .u64 (M.reg (pA x)), .int .u64 (M.reg (pB x))] y fun e w' => e = .returned (.tuple #[]) ∧ IsMac w' b (stopM M 18446744073709551614) ∧ Kept (fun k => k = b) y w') :
    Calls Tryd.prog 36 #[.pointer (some ⟨b, 0, none⟩), .pointer (some ⟨s, 0, none⟩)] y fun e w' => e = .returned (.tuple #[]) ∧ Om W U b s kb fb (stopM M 18446744073709551614) S w' := by
  refine (step_exch y b s M x ⟨h.mac, hok, hh, hpc, hx, hpok⟩ hop (fun y1 w' => Om W U b s kb fb (stopM M 18446744073709551614) S w') (fun y1 hb1 => ?_)).mono ?_
  · refine (hE y1 (h.mac.below hb1)).mono ?_
    rintro e w' ⟨he, hm, hk⟩
    exact ⟨he, (h.below hb1).only hm hk⟩
  · rintro e w' ⟨he, _, _, h⟩
    exact ⟨he, h⟩
end
theorem ok_setM' {M : Mac} (h : OkM M) (p v : Nat) (hv : v < 18446744073709551616) : OkM (setM M p v) := by
  refine ⟨fun i => ?_, h.reg, h.pc, h.exit⟩
  show (if i = p then v else M.mem i) < _
  split
  · exact hv
  · exact h.mem i
theorem ok_stop {M : Mac} (h : OkM M) (x : Nat) (hx : x < 18446744073709551616) : OkM (stopM M x) := ⟨h.mem, h.reg, h.pc, hx⟩
/-- What one machine and its store make next. -/
def Good (p q : Mac × Sto) : Prop := OkM q.1 ∧ q.2.asked.length ≤ p.2.asked.length + 1 ∧ (p.1.halted = true → q = p) ∧ ∀ (W : World) (U : Nat → Prop) (b s kb fb : Nat) (y : World), Om W U b s kb fb p.1 p.2 y →
  Calls Tryd.prog 36 #[.pointer (some ⟨b, 0, none⟩), .pointer (some ⟨s, 0, none⟩)] y fun e w' => e = .returned (.tuple #[]) ∧ Om W U b s kb fb q.1 q.2 w'
theorem good_mac {M M' : Mac} {S : Sto} (hok : OkM M') (hh : M.halted = false) (h : ∀ (b s : Nat) (y : World), IsMac y b M → Calls Tryd.prog 36 #[.pointer (some ⟨b, 0, none⟩), .pointer (some ⟨s, 0, none⟩)] y fun e w' => e = .returned (.tuple #[]) ∧ IsMac w' b M' ∧ Kept (fun k => k = b) y w') : ∃ q, Good (M, S) q :=
  ⟨(M', S), hok, Nat.le_succ _, (fun e => by rw [show (M, S).1.halted = M.halted from rfl, hh] at e; exact absurd e (by decide)), fun W U b s kb fb y ho => (h b s y ho.mac).mono fun _ _ ⟨he, hm, hk⟩ => ⟨he, ho.only hm hk⟩⟩
theorem askL_len (l : List Hx) (h : Hx) : (askL l h).length ≤ l.length + 1 := by
  unfold askL; split <;> simp
theorem good_ex (M : Mac) (S : Sto) (hok : OkM M) (hn : S.asked.length < 1073741824) : ∃ q, Good (M, S) q := by
  cases hh : M.halted with
  | true => exact ⟨(M, S), hok, Nat.le_succ _, (fun _ => rfl), fun W U b s kb fb y ho => (step_still y b s M ho.mac hh).mono fun _ _ ⟨he, hm, hk⟩ => ⟨he, ho.only hm hk⟩⟩
  | false =>
  by_cases hpc : 8192 ≤ M.pc
  · exact good_mac (ok_stop hok _ (by decide)) hh fun b s y hm => step_far y b s M hm hh hpc
  have hpc : M.pc < 8192 := by omega
  obtain ⟨x, hx⟩ : ∃ x, M.mem M.pc = x := ⟨_, rfl⟩
  cases hp : pOk x with
  | false => exact good_mac (ok_stop hok _ (by decide)) hh fun b s y hm => step_bad y b s M x hm hok hh hpc hx hp
  | true =>
  have h35 : pOp x ≤ 35 := by
    unfold pOk at hp
    rw [Bool.and_eq_true] at hp
    exact of_decide_eq_true hp.1
  have pre : ∀ (y : World) (b : Nat), IsMac y b M → Pre y b M x := fun y b hm => ⟨hm, hok, hh, hpc, hx, hp⟩
  have hpc1 : M.pc + 1 < 18446744073709551616 := by omega
  by_cases h0 : pOp x = 0
  · exact good_mac (ok_stop (ok_pc hok _ hpc1) _ (hok.reg _)) hh fun b s y hm => step_halt y b s M x (pre y b hm) h0
  by_cases h25 : pOp x ≤ 25
  · obtain ⟨v, hv, hA⟩ := W1.apply_ex (pOp x) (M.reg (pA x)) (M.reg (pB x)) (M.reg (pC x)) (by omega) h25 (hok.reg _) (hok.reg _) (hok.reg _)
    exact good_mac (ok_pc (ok_setR hok _ _ hv) _ hpc1) hh fun b s y hm => step_app2 y b s M x (pre y b hm) ⟨by omega, h25⟩ v _ hA
  by_cases h26 : pOp x = 26
  · exact good_mac (ok_pc (ok_setR hok _ _ (wN_lt _)) _ hpc1) hh fun b s y hm => step_li y b s M x (pre y b hm) h26
  by_cases h28 : pOp x ≤ 28
  · have e := wN_eq ((M.reg (pA x) : Int) + IntKind.u64.wrap (pN x))
    refine good_mac (M' := accM M (pOp x) (pD x) (pB x) (wN ((M.reg (pA x) : Int) + IntKind.u64.wrap (pN x)))) ?_ hh fun b s y hm => step_acc y b s M x (pre y b hm) (by omega) _ e
    unfold accM
    split
    · exact ok_stop hok 18446744073709551614 (by decide)
    · refine ok_pc (M := if pOp x = 27 then setR M (pD x) (M.mem _) else setM M _ (M.reg (pB x))) ?_ _ hpc1
      split
      · exact ok_setR hok _ _ (hok.mem _)
      · exact ok_setM' hok _ _ (hok.reg _)
  by_cases h33 : pOp x ≤ 33
  · refine good_mac (M' := jumpM M (pOp x) (pD x) (pA x) (wN (pN x))) ?_ hh fun b s y hm => step_jump y b s M x (pre y b hm) (by omega)
    have hw := wN_lt (pN x)
    have hr := hok.reg (pA x)
    obtain ⟨tt, htt, htl⟩ : ∃ tt, (if pOp x = 33 then M.reg (pA x) else wN (pN x)) = tt ∧ tt < 18446744073709551616 := ⟨_, rfl, by
      by_cases c : pOp x = 33
      · rw [if_pos c]; exact hr
      · rw [if_neg c]; exact hw⟩
    unfold jumpM
    rw [htt]
    by_cases c1 : (pOp x = 30 ∧ M.reg (pA x) ≠ 0) ∨ (pOp x = 31 ∧ M.reg (pA x) = 0)
    · rw [if_pos c1]; exact ok_pc hok _ hpc1
    · rw [if_neg c1]
      by_cases c2 : 8192 ≤ tt
      · rw [if_pos c2]; exact ok_stop hok 18446744073709551614 (by decide)
      · rw [if_neg c2]
        refine ok_pc (M := if pOp x = 32 then setR M (pD x) (M.pc + 1) else M) ?_ _ htl
        split
        · exact ok_setR hok _ _ hpc1
        · exact hok
  by_cases h34 : pOp x = 34
  · by_cases hr : M.reg (pA x) + 8 ≤ 8192
    · by_cases hw : M.reg (pB x) + 4 ≤ 8192
      · refine ⟨(_, _), ?_, ?_, ?_, fun W U b s kb fb y ho => om34 ho hok hh hpc hx hp h34 hr hw _ rfl⟩
        · exact ok_pc (ok_exL hok _ _ _ (wd_lt _)) _ hpc1
        · exact Nat.le_succ _
        · intro e; rw [show (M, S).1.halted = M.halted from rfl, hh] at e; exact absurd e (by decide)
      · refine ⟨(stopM M 18446744073709551614, S), ok_stop hok _ (by decide), Nat.le_succ _, ?_, fun W U b s kb fb y ho => omFar ho hok hh hpc hx hp (.inl h34) fun y hm => ?_⟩
        · intro e; rw [show (M, S).1.halted = M.halted from rfl, hh] at e; exact absurd e (by decide)
        · rw [h34]; exact exch34_far2 y b s _ _ M hm (by omega) (by omega)
    · refine ⟨(stopM M 18446744073709551614, S), ok_stop hok _ (by decide), Nat.le_succ _, ?_, fun W U b s kb fb y ho => omFar ho hok hh hpc hx hp (.inl h34) fun y hm => ?_⟩
      · intro e; rw [show (M, S).1.halted = M.halted from rfl, hh] at e; exact absurd e (by decide)
      · rw [h34]; exact exch34_far1 y b s _ _ M hm (by omega)
  have h35 : pOp x = 35 := by omega
  by_cases hr : M.reg (pA x) + 4 ≤ 8192
  · by_cases hw : M.reg (pB x) + 8 ≤ 8192
    · refine ⟨(_, _), ?_, ?_, ?_, fun W U b s kb fb y ho => om35 ho hok hh hpc hx hp h35 hr hw hn _ rfl⟩
      · show OkM (ite _ _ _)
        split
        · exact ok_pc (ok_exL hok _ _ _ (wd_lt _)) _ hpc1
        · exact ok_stop hok _ (by decide)
      · exact askL_len _ _
      · intro e; rw [show (M, S).1.halted = M.halted from rfl, hh] at e; exact absurd e (by decide)
    · refine ⟨(stopM M 18446744073709551614, S), ok_stop hok _ (by decide), Nat.le_succ _, ?_, fun W U b s kb fb y ho => omFar ho hok hh hpc hx hp (.inr h35) fun y hm => ?_⟩
      · intro e; rw [show (M, S).1.halted = M.halted from rfl, hh] at e; exact absurd e (by decide)
      · rw [h35]; exact exch35_far2 y b s _ _ M hm (by omega) (by omega)
  · refine ⟨(stopM M 18446744073709551614, S), ok_stop hok _ (by decide), Nat.le_succ _, ?_, fun W U b s kb fb y ho => omFar ho hok hh hpc hx hp (.inr h35) fun y hm => ?_⟩
    · intro e; rw [show (M, S).1.halted = M.halted from rfl, hh] at e; exact absurd e (by decide)
    · rw [h35]; exact exch35_far1 y b s _ _ M hm (by omega)
/-- All that comes, step by step. -/
noncomputable def nextG (p : Mac × Sto) : Mac × Sto := by
  classical exact if h : ∃ q, Good p q then h.choose else p
noncomputable def seqG (p : Mac × Sto) : Nat → Mac × Sto
  | 0 => p
  | i + 1 => nextG (seqG p i)
theorem next_good {p : Mac × Sto} (h : ∃ q, Good p q) : Good p (nextG p) := by
  unfold nextG
  rw [dif_pos h]
  exact h.choose_spec
theorem seq_all (p : Mac × Sto) (hok : OkM p.1) (n : Nat) (hn : p.2.asked.length + n < 1073741824) : ∀ i, i ≤ n → OkM (seqG p i).1 ∧ (seqG p i).2.asked.length ≤ p.2.asked.length + i ∧ Good (seqG p i) (seqG p (i + 1))
  | 0, _ => ⟨hok, Nat.le_refl _, next_good (good_ex p.1 p.2 hok (by omega))⟩
  | i + 1, hi => by
    obtain ⟨h1, h2, h3⟩ := seq_all p hok n hn i (by omega)
    have h4 : OkM (seqG p (i + 1)).1 := h3.1
    have h5 : (seqG p (i + 1)).2.asked.length ≤ p.2.asked.length + (i + 1) := by have := h3.2.1; omega
    have h6 : (seqG p (i + 1)).2.asked.length < 1073741824 := by omega
    exact ⟨h4, h5, next_good (good_ex (seqG p (i + 1)).1 (seqG p (i + 1)).2 h4 h6)⟩
end Vm
end Go.Proofs.YtjfpbponjhpdhaaDoor
namespace Go.Proofs.YtjfpbponjhpdhaaDoor
open Go.ChangeShapes Go.WideShapes Go.Deep Go.RowKit
section
variable {H : Type} {enc : TypeId × Value → H} {P : Program} {w : World} {base : Nat} {spare : Nat → Bool} {held : Bool}
theorem open_recs {t e : TypeId} {fs : Array Field} {v : Value} {d : DataW H} {ps : List MemPlace} (ht : P.underlying t = some (.slice e)) (he : P.underlying e = some (.struct fs))
    (hone : oneCellFields P fs = true) (hC : P.cellsOf e = fs.size) (hv : ∃ a len cap, v = .slice a len cap) (h : DataW.Trod enc P w base spare held t v d ps) :
    v = .slice none 0 0 ∨ ∃ (a : Addr) (len cap : Nat), v = .slice (some a) len cap ∧ len ≤ cap ∧ cap ≤ maxLen ∧
      ∀ i, i < len → ∀ (j : Nat) (f : Field), fs[j]? = some f → ∃ (u : Value) (y : DataW H × List MemPlace) (n : Nat), w.cell? (a.add (i * fs.size + j)) = some u ∧ DataW.trod enc P w base spare held n f.type [u] = some y := by
  obtain ⟨fuel, hf⟩ := h
  obtain ⟨a0, l0, c0, rfl⟩ := hv
  rcases open_slice ht hf with ⟨h0, _⟩ | ⟨a, len, cap, m, n, D, Pl, hcs, _, hl, hm, hmm, _, hi⟩
  · left
    simpa [Value.cells] using h0
  · right
    have hva : Value.slice a0 l0 c0 = .slice (some a) len cap := by simpa [Value.cells] using hcs
    refine ⟨a, len, cap, hva, hl, hm, fun i hil j f hj => ?_⟩
    have him : i < m := by rw [hmm]; split <;> omega
    obtain ⟨cs, hc, htr⟩ := hi i him
    rw [hC] at hc
    obtain ⟨_, hlen, hat⟩ := World.cells?_some hc
    obtain ⟨ys, n', _, _, _, _, hg⟩ := DataW.trod_struct he htr
    obtain ⟨ho, hk⟩ := hone_of hone j f hj
    have hjl : j < fs.size := (Array.getElem?_eq_some_iff.1 hj).1
    have h1 := hg j f hj
    rw [ho, hk] at h1
    have hjc : j < cs.length := by omega
    have e1 : (cs.drop j).take 1 = [cs[j]] := by rw [List.drop_eq_getElem_cons hjc]; rfl
    rw [e1] at h1
    have hcell := hat j hjl
    rw [List.getElem?_eq_getElem hjc, add_add] at hcell
    cases hy : ys[j]? with
    | none => rw [hy] at h1; rename_i hyl _; exact absurd (List.getElem?_eq_none_iff.1 hy) (by omega)
    | some y => exact ⟨_, y, n', hcell, by rw [h1, hy]⟩
theorem int_of {t : TypeId} {k : IntKind} {n : Nat} {u : Value} {y : DataW H × List MemPlace} (ht : P.underlying t = some (.int k)) (h : DataW.trod enc P w base spare held n t [u] = some y) : ∃ z, u = .int k z ∧ (Lit.int k z).wf = true := by
  obtain ⟨z, hz, _, hw⟩ := DataW.trod_int ht h
  simp at hz
  exact ⟨z, hz, hw⟩
/-- A slice of structs of integers. -/
def IsRecs (ks : List IntKind) (w : World) (a : Option Addr) (len cap : Nat) : Prop :=
  (a = none ∧ len = 0 ∧ cap = 0) ∨ (len ≤ cap ∧ cap ≤ maxLen ∧ ∀ i, i < len → ∃ c off, a = some ⟨c, off, none⟩ ∧ ∀ (j : Nat) (k : IntKind), ks[j]? = some k → ∃ z : Int, w.cell? ⟨c, off + i * ks.length + j, none⟩ = some (.int k z) ∧ (Lit.int k z).wf = true)
theorem recs_of {t e : TypeId} {fs : Array Field} {ks : List IntKind} {a0 : Option Addr} {l0 c0 : Nat} {d : DataW H} {ps : List MemPlace} (ht : P.underlying t = some (.slice e)) (he : P.underlying e = some (.struct fs))
    (hone : oneCellFields P fs = true) (hC : P.cellsOf e = fs.size) (hlen : ks.length = fs.size) (h0 : 0 < ks.length) (hks : ∀ (j : Nat) (k : IntKind), ks[j]? = some k → ∃ f : Field, fs[j]? = some f ∧ P.underlying f.type = some (.int k))
    (h : DataW.Trod enc P w base spare held t (.slice a0 l0 c0) d ps) : IsRecs ks w a0 l0 c0 := by
  rcases open_recs ht he hone hC ⟨_, _, _, rfl⟩ h with hn | ⟨a, len, cap, hv, hl, hm, hi⟩
  · simp at hn
    exact .inl hn
  · simp at hv
    obtain ⟨rfl, rfl, rfl⟩ := hv
    refine .inr ⟨hl, hm, fun i hil => ?_⟩
    obtain ⟨b, off, spot⟩ := a
    have hspot : spot = none := by
      obtain ⟨f, hf, _⟩ := hks 0 ks[0] (List.getElem?_eq_getElem h0)
      obtain ⟨u, _, _, hc, _⟩ := hi 0 (by omega) 0 f hf
      simpa [Addr.add] using World.cell?_spot hc
    subst hspot
    refine ⟨b, off, rfl, fun j k hj => ?_⟩
    obtain ⟨f, hf, hu⟩ := hks j k hj
    obtain ⟨u, y, n, hc, ht'⟩ := hi i hil j f hf
    obtain ⟨z, rfl, hz⟩ := int_of hu ht'
    refine ⟨z, ?_, hz⟩
    have ha : (⟨b, off, none⟩ : Addr).add (i * fs.size + j) = ⟨b, off + i * ks.length + j, none⟩ := by
      rw [hlen, Addr.add]
      split <;> simp_all <;> omega
    rw [← ha]; exact hc
end
end Go.Proofs.YtjfpbponjhpdhaaDoor
