/- Merged of Yf Yg Eva Evb Evc Evd Eve Evf Evg Evh Evi Evk. Own work. -/
import Derived.Test.YtbenjgncbpafbaaGreatDoorP08
import Derived.StillTailTactics
import Derived.Test.YtbenjgncbpafbaaGreatDoorP01
import Derived.Test.YtbenjgncbpafbaaGreatDoorP02
import Derived.Outline
import Derived.BigQuiet
import Derived.Deep.QuietTactic
import Derived.BigRegion
import Derived.RegionTactic
import Derived.Lib.Hide
import Derived.Test.YtbenjgncbpafbaaGreatDoorP05
import Derived.Test.YtbenjgncbpafbaaGreatDoorP06
import Derived.Deep.MidRow
import Derived.Test.YtbenjgncbpafbaaGreatDoorP03
import Derived.Laws.CopyOwn
namespace Go.Proofs.YtbenjgncbpafbaaGreatDoor
open Go.RowKit
set_option linter.unusedVariables false
set_option linter.unusedSimpArgs false
namespace Vm
open Kc
/-- What stands ahead of a step's switch. -/
structure Pre (w : World) (b : Nat) (M : Mac) (x : Nat) : Prop where
  mac : IsMac w b M
  ok : OkM M
  hh : M.halted = false
  pc : M.pc < 8192
  hx : M.mem M.pc = x
  pok : pOk x = true
/-- A number as a word. -/
def wN (z : Int) : Nat := (IntKind.u64.wrap z).toNat
theorem wN_eq (z : Int) : IntKind.u64.wrap z = ((wN z : Nat) : Int) := by
  unfold wN
  have : IntKind.u64.wrap z = z % 18446744073709551616 := by simp [IntKind.wrap, IntKind.bits, IntKind.signed]
  rw [this]; omega
theorem wrap_pc {p : Nat} (h : p < 8192) : IntKind.u64.wrap ((p : Int) + 1) = ((p + 1 : Nat) : Int) := by
  rw [IntWalk.u64_in _ (by omega)]; omega
theorem pD_lt (x : Nat) : pD x < 16 := Nat.mod_lt _ (by decide)
theorem pA_lt (x : Nat) : pA x < 16 := Nat.mod_lt _ (by decide)
set_option maxHeartbeats 2000000 in
set_option maxRecDepth 100000 in
theorem step_li (w : World) (b s : Nat) (M : Mac) (x : Nat) (h : Pre w b M x) (hop : pOp x = 26) :
    Calls Tryz.prog 19 #[.pointer (some ⟨b, 0, none⟩), .pointer (some ⟨s, 0, none⟩)] w fun e w' => e = .returned (.tuple #[]) ∧ IsMac w' b ({ setR M (pD x) (wN (pN x)) with pc := M.pc + 1 }) ∧ Kept (fun k => k = b) w w' := by
  have k3 : w.cell? ⟨b, 8209, none⟩ = some (.bool false) := h.hh ▸ h.mac.halted
  have k2 := h.mac.pc
  have tpc : decide (8192 ≤ (M.pc : Int)) = false := by have := h.pc; simp; omega
  have HP := Lib.hid h
  have hxb : x < 18446744073709551616 := h.hx ▸ h.ok.mem _
  have HXB := Lib.hid hxb
  clear hxb
  clear h
  go_enter Tryz.func19, Tryz.ntmps19
  go_upto_region 3 with (fail)
  have NE : Nonempty (Wd (fun z => Below w.heap.size w z)) := ⟨⟨w.drew, (Below.refl _ _).drew⟩⟩
  have kpc : ∀ z : Wd (fun z => Below w.heap.size w z), z.val.cell? ⟨b, 8208, none⟩ = some (.int .u64 (M.pc : Int)) := fun z => keep1 z.ok HP.out.mac.pc
  have km : ∀ z : Wd (fun z => Below w.heap.size w z), z.val.cell? ⟨b, M.pc, none⟩ = some (.int .u64 (x : Int)) := fun z => keep1 z.ok (HP.out.hx ▸ HP.out.mac.mem HP.out.pc)
  have hlt : (M.pc : Int) < 8192 := by have := HP.out.pc; omega
  have hpv : Hid (partsV x = .tuple #[.int .i64 (pOp x), .int .i64 (pD x), .int .i64 (pA x), .int .i64 (pB x), .int .i64 (pC x), .int .i64 (pN x), .bool true]) := Lib.hid (if_pos HP.out.pok)
  have Q1 := Lib.hid (fun z : Wd (fun z => Below w.heap.size w z) => in_of_below z (fun y hb => bl z.ok hb) (hpv.out ▸ parts_walk z.val x HXB.out))
  clear k2 k3 tpc
  refine wp_region_in (fun z => Below w.heap.size w z) (by kernel_rfl) (by kernel_rfl) (Below.refl _ _).drew ?_
  repeat (go_big_quiet_step (with_reducible exact Q1.out _))
  refine wpQuiet_nil ?_
  rintro y0 ⟨z, rfl⟩
  have HZ := Lib.hid (HP.out.mac.below z.ok)
  have HB := Lib.hid z.ok
  clear Q1 kpc km NE hlt
  generalize z.val = y at *
  have hd : (pD x : Int) < 16 := by have := pD_lt x; omega
  have kd := HZ.out.reg (pD_lt x)
  have fd := HZ.out.fz (8192 + pD x)
  have HS : Hid (IsMac (y.setCell ⟨b, 8192 + pD x, none⟩ (.int .u64 (IntKind.u64.wrap (pN x)))) b (setR M (pD x) (wN (pN x)))) := Lib.hid (by rw [wN_eq]; exact HZ.out.setReg (pD_lt x) _)
  have HK : Hid (Kept (fun k => k = b) w (y.setCell ⟨b, 8192 + pD x, none⟩ (.int .u64 (IntKind.u64.wrap (pN x))))) := Lib.hid (kept_set (S := fun k => k = b) (Kept.ofBelow HB.out) b _ rfl _)
  go_upto_region 16 with (fail)
  clear kd fd hd
  generalize y.setCell ⟨b, 8192 + pD x, none⟩ (.int .u64 (IntKind.u64.wrap (pN x))) = y1 at *
  have kp := HS.out.pc
  have fp := HS.out.fz 8208
  have HW : Hid (IntKind.u64.wrap ((M.pc : Int) + 1) = ((M.pc + 1 : Nat) : Int)) := Lib.hid (wrap_pc HP.out.pc)
  have H9 : Hid (IsMac (y1.setCell ⟨b, 8208, none⟩ (.int .u64 (IntKind.u64.wrap ((M.pc : Int) + 1)))) b { setR M (pD x) (wN (pN x)) with pc := M.pc + 1 }) := Lib.hid (by rw [HW.out]; exact HS.out.setPc (M.pc + 1))
  have K9 := Lib.hid (kept_set (S := fun k => k = b) HK.out b 8208 rfl (.int .u64 (IntKind.u64.wrap ((M.pc : Int) + 1))))
  generalize hpc : (M.pc : Int) = PC at *
  go_wp2_with (fail)
  subst hpc
  exact bodyPost_end (v := .tuple #[]) (by simp [results, Tryz.results19, go_sem]) rfl ⟨rfl, H9.out, K9.out⟩
set_option maxHeartbeats 2000000 in
set_option maxRecDepth 100000 in
theorem step_halt (w : World) (b s : Nat) (M : Mac) (x : Nat) (h : Pre w b M x) (hop : pOp x = 0) :
    Calls Tryz.prog 19 #[.pointer (some ⟨b, 0, none⟩), .pointer (some ⟨s, 0, none⟩)] w fun e w' => e = .returned (.tuple #[]) ∧ IsMac w' b (stopM { M with pc := M.pc + 1 } (M.reg (pA x))) ∧ Kept (fun k => k = b) w w' := by
  have k3 : w.cell? ⟨b, 8209, none⟩ = some (.bool false) := h.hh ▸ h.mac.halted
  have k2 := h.mac.pc
  have tpc : decide (8192 ≤ (M.pc : Int)) = false := by have := h.pc; simp; omega
  have HP := Lib.hid h
  have hxb : x < 18446744073709551616 := h.hx ▸ h.ok.mem _
  have HXB := Lib.hid hxb
  clear hxb
  clear h
  go_enter Tryz.func19, Tryz.ntmps19
  go_upto_region 3 with (fail)
  have NE : Nonempty (Wd (fun z => Below w.heap.size w z)) := ⟨⟨w.drew, (Below.refl _ _).drew⟩⟩
  have kpc : ∀ z : Wd (fun z => Below w.heap.size w z), z.val.cell? ⟨b, 8208, none⟩ = some (.int .u64 (M.pc : Int)) := fun z => keep1 z.ok HP.out.mac.pc
  have km : ∀ z : Wd (fun z => Below w.heap.size w z), z.val.cell? ⟨b, M.pc, none⟩ = some (.int .u64 (x : Int)) := fun z => keep1 z.ok (HP.out.hx ▸ HP.out.mac.mem HP.out.pc)
  have hlt : (M.pc : Int) < 8192 := by have := HP.out.pc; omega
  have hpv : Hid (partsV x = .tuple #[.int .i64 (pOp x), .int .i64 (pD x), .int .i64 (pA x), .int .i64 (pB x), .int .i64 (pC x), .int .i64 (pN x), .bool true]) := Lib.hid (if_pos HP.out.pok)
  have Q1 := Lib.hid (fun z : Wd (fun z => Below w.heap.size w z) => in_of_below z (fun y hb => bl z.ok hb) (hpv.out ▸ parts_walk z.val x HXB.out))
  clear k2 k3 tpc
  refine wp_region_in (fun z => Below w.heap.size w z) (by kernel_rfl) (by kernel_rfl) (Below.refl _ _).drew ?_
  repeat (go_big_quiet_step (with_reducible exact Q1.out _))
  refine wpQuiet_nil ?_
  rintro y0 ⟨z, rfl⟩
  have HZ := Lib.hid (HP.out.mac.below z.ok)
  have HB := Lib.hid z.ok
  clear Q1 kpc km NE hlt
  generalize z.val = y at *
  have ha : (pA x : Int) < 16 := by have := pA_lt x; omega
  have kp := HZ.out.pc
  have fp := HZ.out.fz 8208
  have HW : Hid (IntKind.u64.wrap ((M.pc : Int) + 1) = ((M.pc + 1 : Nat) : Int)) := Lib.hid (wrap_pc HP.out.pc)
  have HS : Hid (IsMac (y.setCell ⟨b, 8208, none⟩ (.int .u64 (IntKind.u64.wrap ((M.pc : Int) + 1)))) b { M with pc := M.pc + 1 }) := Lib.hid (by rw [HW.out]; exact HZ.out.setPc (M.pc + 1))
  have HK : Hid (Kept (fun k => k = b) w (y.setCell ⟨b, 8208, none⟩ (.int .u64 (IntKind.u64.wrap ((M.pc : Int) + 1))))) := Lib.hid (kept_set (S := fun k => k = b) (Kept.ofBelow HB.out) b _ rfl _)
  go_upto_region 10 with (fail)
  clear kp fp
  generalize y.setCell ⟨b, 8208, none⟩ (.int .u64 (IntKind.u64.wrap ((M.pc : Int) + 1))) = y1 at *
  have ka := HS.out.reg (pA_lt x)
  have HC := Lib.hid (stop_walk y1 b (M.reg (pA x)) _ HS.out)
  go_wp2_with (go_at_call 32; (with_reducible refine HC.out.mono ?_); rintro e y2 ⟨he, hm, hk⟩; obtain rfl : e = _ := he; have HM2 := Lib.hid hm; have HK2 := Lib.hid hk; clear hm hk)
  exact bodyPost_end (v := .tuple #[]) (by simp [results, Tryz.results19, go_sem]) rfl ⟨rfl, HM2.out, HK.out.trans HK2.out fun _ _ h => h⟩
end Vm
end Go.Proofs.YtbenjgncbpafbaaGreatDoor
namespace Go.Proofs.YtbenjgncbpafbaaGreatDoor
open Go.RowKit
set_option linter.unusedVariables false
set_option linter.unusedSimpArgs false
namespace Wt
/-- A value of noughts alone, built. -/
theorem wpList_buildM {P : Program} {ops : Array Oper} {rest : List Oper} {o : Oper} {a : Act} {w : World} {Q : Exit → Act → World → Prop} (hg : o.guard = none) (t : TypeId) (ho : o.op = .build t #[])
    (v : Value) (hl : (Instr.build t #[]).run P w = .ok v w) (h : wpList P ops Q rest (a.put o.dst v) w) : wpList P ops Q (o :: rest) a w :=
  wpList_plain hg fun _ hK => by
    unfold Oper.wp execOp
    simp only [ho]
    simp [hl, Result.andThen]
    exact hK _ _ h
end Wt
namespace Vm
open Kc
/-- A slice of words. -/
def IsWs (w : World) (b o : Nat) (n : Nat) (g : Nat → Nat) : Prop := ∀ j, j < n → w.cell? ⟨b, o + j, none⟩ = some (.int .u64 (g j))
def loaded (n : Nat) (g : Nat → Nat) : Mac := ⟨fun i => if i < n then g i else 0, fun _ => 0, 0, false, 0⟩
theorem mc_loaded (n : Nat) (g : Nat → Nat) (hn : n ≤ 8192) (i : Nat) (hi : i < 8211) : splv (mc m0) 0 n (fun j => .int .u64 (g j)) i = mc (loaded n g) i := by
  unfold splv mc loaded m0
  by_cases h : i < n
  · rw [if_pos ⟨by omega, by omega⟩, if_pos (by omega)]
    simp [h]
  · rw [if_neg (by omega)]
    by_cases h1 : i < 8192
    · rw [if_pos h1, if_pos h1]; simp [h]
    · rw [if_neg h1, if_neg h1]
theorem slM (q : Nat) (w : World) : (Instr.sliceAt 37 (.pointer (some ⟨q, 0, none⟩)) none none none).run Tryz.prog w = .ok (.slice (some ⟨q, 0, none⟩) 8192 8192) w := by
  have hu : Tryz.prog.underlying 37 = some (.array (Tryz.prog.arrayLen 37) (Tryz.prog.elem 37)) := by kernel_rfl
  have hl : Tryz.prog.arrayLen 37 = 8192 := by kernel_rfl
  have hs : (sizeOf (Tryz.prog.elem 37)).run Tryz.prog w = .ok 1 w := by kernel_rfl
  rw [run_sliceAt_array_all w _ ⟨q, 0, none⟩ hu, hs]
  simp [slicedAt, hl, add_at]
theorem undW : Tryz.prog.underlying 22 = some (.slice 36) := by kernel_rfl
theorem sizeW : (Tryz.prog.info? 36).map (·.size) = some 1 := by kernel_rfl
set_option maxHeartbeats 1000000 in
set_option maxRecDepth 100000 in
theorem load_walk (w : World) (bw ow n c : Nat) (g : Nat → Nat) (h : IsWs w bw ow n g) (hn : n ≤ 8192) :
    Calls Tryz.prog 8 #[.slice (some ⟨bw, ow, none⟩) n c] w fun e w' => e = .returned (.tuple #[.pointer (some ⟨w.heap.size, 0, none⟩), .nilIface]) ∧ IsMac w' w.heap.size (loaded n g) ∧ Below w.heap.size w w' := by
  have t1 : decide (8192 < (n : Int)) = false := by simp; omega
  have HBM := Lib.hid (buildM0 w)
  have HT : Hid (IsTab (w.alloc (.cells (tab 8211 (mc m0)) 40)) w.heap.size 40 8211 (mc m0)) := Lib.hid (IsTab.new w _ 8211 _)
  have HB : Hid (Below w.heap.size w (w.alloc (.cells (tab 8211 (mc m0)) 40))) := Lib.hid ((Below.refl _ _).alloc (Nat.le_refl _) _)
  have HC : Hid (∀ j, j < n → (w.alloc (.cells (tab 8211 (mc m0)) 40)).cell? ((⟨bw, ow, none⟩ : Addr).add j) = some (.int .u64 (g j))) := Lib.hid (fun j hj => by rw [add_at]; exact keep1 HB.out (h j hj))
  have HN := Lib.hid hn
  clear h hn
  generalize hz : (tab 8211 (mc m0)) = ck at *
  have HZ := Lib.hid hz
  clear hz
  go_enter Tryz.func8, Tryz.ntmps8
  go_upto_region 4 with ((with_reducible refine Wt.wpList_buildM (P := Tryz.prog) (w := w) ?_ 40 ?_ (.agg ck) HBM.out ?_); (· exact rfl); (· exact rfl))
  generalize w.alloc (.cells ck 40) = y at *
  have s1 := slM w.heap.size
  generalize hq : w.heap.size = q at *
  go_upto_region 5 with (refine wpList_copy_tab rfl (.tmp 14) (.tmp 15) 22 22 rfl 36 undW sizeW q 0 8192 8192 ⟨bw, ow, none⟩ n c rfl rfl 40 8211 (mc m0) HT.out n (by have := HN.out; omega) (fun j => .int .u64 (g j)) (fun j hj => HC.out j hj) (by have := HN.out; omega) (fun _ => rfl) ?_)
  have H9 : IsMac (World.setRow y q (tab 8211 (splv (mc m0) 0 n fun j => .int .u64 (g j)))) q (loaded n g) := (IsTab.row (f := mc m0) HT.out).cong fun i hi => mc_loaded n g HN.out i hi
  have HB9 : Below w.heap.size w (World.setRow y q (tab 8211 (splv (mc m0) 0 n fun j => .int .u64 (g j)))) := below_setRow (by rw [hq]; exact HB.out) (by rw [hq]; exact Nat.le_refl _) _
  have H9 := Lib.hid (And.intro H9 HB9)
  clear HB9
  generalize World.setRow y q (tab 8211 (splv (mc m0) 0 n fun j => .int .u64 (g j))) = y9 at *
  have HQ := Lib.hid hq
  clear hq s1
  go_wp2_with (fail)
  exact bodyPost_ret (v := .tuple #[.pointer (some ⟨q, 0, none⟩), .nilIface]) (by simp [results, Tryz.results8, go_sem]) rfl ⟨by rw [HQ.out], by rw [HQ.out]; exact H9.out.1, H9.out.2⟩
theorem wrap_up (i : Nat) (h : (i : Int) + 1 ≤ 9223372036854775807) : wrap64 ((i : Int) + 1) = ((i + 1 : Nat) : Int) := by
  unfold wrap64; omega
theorem meas_dn {i k : Nat} (h : i + 1 ≤ k) : k - (i + 1) < k - i := by omega
theorem meas_loop {i k : Nat} (h : i + 1 ≤ k) (hw : wrap64 ((i : Int) + 1) = ((i + 1 : Nat) : Int)) : k - (intOf (.int .i64 (wrap64 ((i : Int) + 1)))).toNat < k - (intOf (.int .i64 (i : Int))).toNat := by
  rw [hw]
  show k - (i + 1) < k - i
  exact meas_dn h
/-- Run, over a row of machines. -/
theorem run_walk (b s n k : Nat) (f : Nat → Mac) (I : Nat → World → Prop) (hI : ∀ i y, I i y → IsMac y b (f i))
    (hstep : ∀ i y, i < k → I i y → Calls Tryz.prog 19 #[.pointer (some ⟨b, 0, none⟩), .pointer (some ⟨s, 0, none⟩)] y fun e w' => e = .returned (.tuple #[]) ∧ I (i + 1) w')
    (hk : k ≤ n) (hh : ∀ i, i < k → (f i).halted = false) (hend : k = n ∨ (f k).halted = true) (hn : (n : Int) < 9223372036854775807) (w : World) (h0 : I 0 w) :
    Calls Tryz.prog 11 #[.pointer (some ⟨b, 0, none⟩), .pointer (some ⟨s, 0, none⟩), .int .i64 n] w fun e w' => e = .returned (.tuple #[.int .i64 k, .nilIface]) ∧ I k w' := by
  have t1 : decide ((n : Int) < 0) = false := by simp
  have HI := Lib.hid hI
  have HS := Lib.hid hstep
  have HH := Lib.hid hh
  have HE := Lib.hid hend
  have HK := Lib.hid (And.intro hk hn)
  have H0 := Lib.hid h0
  clear hI hstep hh hend hk h0 hn
  go_enter Tryz.func11, Tryz.ntmps11
  go_wp2_with (fail)
  clear t1
  go_loopw [8] (fun t y => ∃ i : Nat, t = .int .i64 i ∧ Hid (i ≤ k ∧ I i y)) (fun t _ => k - (intOf t).toNat)
  case atStart => exact ⟨0, rfl, Lib.hid ⟨Nat.zero_le _, H0.out⟩⟩
  case round =>
    obtain ⟨i, rfl, hp⟩ := hrel
    have HP := Lib.hid hp.out
    clear hp H0
    have kh := (HI.out i wr HP.out.2).halted
    by_cases hlt : i < k
    · have t1 : decide (i < n) = true := by have := HK.out.1; simp; omega
      have e1 : (f i).halted = false := HH.out i hlt
      rw [e1] at kh
      have HC := Lib.hid (HS.out i wr hlt HP.out.2)
      have HW : Hid (wrap64 ((i : Int) + 1) = ((i + 1 : Nat) : Int) ∧ i + 1 ≤ k) := Lib.hid ⟨wrap_up i (by have := HK.out; omega), hlt⟩
      clear hlt e1
      go_upto_region 8 with (go_at_call 19; (with_reducible refine HC.out.mono ?_); rintro e y1 ⟨he, hi⟩; obtain rfl : e = _ := he; have HI1 := Lib.hid hi; clear hi)
      have hw1 := HW.out.1
      go_wp2_with (fail)
      go_roundw
      case rel => exact ⟨i + 1, by go_num, Lib.hid ⟨HW.out.2, HI1.out⟩⟩
      case measure =>
        exact meas_loop HW.out.2 HW.out.1
    · obtain rfl : i = k := by have := HP.out.1; omega
      by_cases hkn : i < n
      · have t1 : decide (i < n) = true := by simp; omega
        have e1 : (f i).halted = true := HE.out.resolve_left (by omega)
        rw [e1] at kh
        clear hlt hkn
        go_wp2_with (fail)
        exact bodyPost_ret (v := .tuple #[.int .i64 i, .nilIface]) (by simp [results, Tryz.results11, go_sem]) rfl ⟨rfl, HP.out.2⟩
      · have t1 : decide (i < n) = false := by simp; omega
        clear hlt hkn
        go_wp2_with (fail)
        exact bodyPost_ret (v := .tuple #[.int .i64 i, .nilIface]) (by simp [results, Tryz.results11, go_sem]) rfl ⟨rfl, HP.out.2⟩
end Vm
end Go.Proofs.YtbenjgncbpafbaaGreatDoor
namespace Go.Proofs.YtbenjgncbpafbaaGreatDoor
set_option linter.unusedVariables false
namespace Ir
/-- A list of expressions. -/
inductive Ef where
  | nil : Ef
  | cons (op : Int) (n : Nat) (kids rest : Ef) : Ef
/-- A list of statements. -/
inductive Sf where
  | nil : Sf
  | cons (kind n : Int) (ao : Int) (an : Nat) (ak : Ef) (bo : Int) (bn : Nat) (bk : Ef) (body els rest : Sf) : Sf
def Ef.len : Ef → Nat
  | .nil => 0
  | .cons _ _ _ r => r.len + 1
def Sf.len : Sf → Nat
  | .nil => 0
  | .cons _ _ _ _ _ _ _ _ _ _ r => r.len + 1
/-- A function. -/
structure Fn where
  params : Int
  locals : Int
  body : Sf
/-- A run's state. -/
structure Rs where
  mem : Nat → Nat
  fuel : Nat
  used : Nat
  dry : Bool
  exit : Nat
def upd (f : Nat → Nat) (i v : Nat) : Nat → Nat := fun j => if j = i then v else f j
def Rs.up (s : Rs) : Rs := { s with used := s.used + 1 }
def Rs.ends (s : Rs) (x : Nat) : Rs := { s with exit := x }
def Rs.put (s : Rs) (a x : Nat) : Rs := { s with mem := upd s.mem a x }
structure Sem where
  val : Int → Nat → Ef → (Nat → Nat) → Rs → Option (Nat × Bool × Rs)
  lst : Sf → (Nat → Nat) → Nat → Rs → Option (Nat × (Nat → Nat) × Nat × Rs)
/-- No expression of a list is deeper than d. -/
def fitE : Ef → Nat → Bool
  | .nil, _ => true
  | .cons _ _ kids rest, d => decide (1 ≤ d) && fitE kids (d - 1) && fitE rest d
def cntE : Ef → Nat
  | .nil => 0
  | .cons _ _ kids rest => 1 + cntE kids + cntE rest
/-- How many arguments an operation of words has. -/
def argN (op : Int) : Nat := if op = 8 ∨ op = 9 then 3 else if op = 21 ∨ op = 25 then 1 else 2
/-- An expression's own part is right, in the function at. -/
def rightOp (prog : List Fn) (at_ : Nat) (op : Int) (n m : Nat) : Bool :=
  if op = 26 then m == 0
  else if op = 27 then m == 0 && (match prog[at_]? with | some fn => decide ((n : Int) < fn.locals) | none => false)
  else if op = 28 then m == 1
  else if op = 29 then decide (at_ < n) && (match prog[n]? with | some fn => decide (fn.params = (m : Int)) | none => false)
  else decide (1 ≤ op ∧ op ≤ 25) && m == argN op
def rightE (prog : List Fn) (at_ : Nat) : Ef → Bool
  | .nil => true
  | .cons op n kids rest => rightOp prog at_ op n kids.len && rightE prog at_ kids && rightE prog at_ rest
/-- A statement's expressions, and its lists. -/
def exprs (kind : Int) (ao : Int) (an : Nat) (ak : Ef) (bo : Int) (bn : Nat) (bk : Ef) : Ef :=
  if kind = 2 then .cons ao an ak (.cons bo bn bk .nil) else .cons ao an ak .nil
def fitS : Sf → Nat → Bool
  | .nil, _ => true
  | .cons kind n ao an ak bo bn bk body els rest, d => decide (1 ≤ d) && decide (1 ≤ kind ∧ kind ≤ 7) && fitE (exprs kind ao an ak bo bn bk) 8 && (if kind = 3 then fitS body (d - 1) && fitS els (d - 1) else if kind = 4 then fitS body (d - 1) else true) && fitS rest d
def cntS : Sf → Nat
  | .nil => 0
  | .cons kind n ao an ak bo bn bk body els rest => 1 + cntE (exprs kind ao an ak bo bn bk) + (if kind = 3 then cntS body + cntS els else if kind = 4 then cntS body else 0) + cntS rest
def rightS (prog : List Fn) (at_ : Nat) : Sf → Bool
  | .nil => true
  | .cons kind n ao an ak bo bn bk body els rest => decide (1 ≤ kind ∧ kind ≤ 7) && (!decide (kind = 1) || (decide (0 ≤ n) && (match prog[at_]? with | some fn => decide (n < fn.locals) | none => false))) && rightE prog at_ (exprs kind ao an ak bo bn bk) && (if kind = 3 then rightS prog at_ body && rightS prog at_ els else if kind = 4 then rightS prog at_ body else true) && rightS prog at_ rest
/-- A program is right. -/
def rightFs (prog : List Fn) : Nat → List Fn → Bool
  | _, [] => true
  | i, fn :: r => decide (0 ≤ fn.params ∧ fn.params ≤ fn.locals ∧ fn.locals ≤ 24) && rightS prog i fn.body && rightFs prog (i + 1) r
def cntF : List Fn → Nat
  | [] => 0
  | fn :: r => cntS fn.body + cntF r
def right (prog : List Fn) : Bool :=
  (prog.all fun fn => fitS fn.body 16) && decide (cntF prog ≤ 6000) && decide (1 ≤ prog.length ∧ prog.length ≤ 64) && (match prog[0]? with | some fn => decide (fn.params = 0) | none => false) && rightFs prog 0 prog
end Ir
end Go.Proofs.YtbenjgncbpafbaaGreatDoor
namespace Go.Proofs.YtbenjgncbpafbaaGreatDoor
open Go.RowKit
set_option linter.unusedVariables false
set_option linter.unusedSimpArgs false
namespace Ir
open Kc
/-- A list of expressions stands in a block, from a place on; D: the blocks of programs. -/
def EfAt (w : World) (D : Nat → Prop) : Ef → Nat → Nat → Prop
  | .nil, _, _ => True
  | .cons op n kids rest, b, o => D b ∧ n < 18446744073709551616 ∧ w.cell? ⟨b, o, none⟩ = some (.int .i64 op) ∧ w.cell? ⟨b, o + 1, none⟩ = some (.int .u64 n) ∧
    (∃ a c, w.cell? ⟨b, o + 2, none⟩ = some (.slice a kids.len c) ∧ kids.len < 1099511627776 ∧ (kids = .nil ∨ ∃ b' o', a = some ⟨b', o', none⟩ ∧ EfAt w D kids b' o')) ∧ EfAt w D rest b (o + 3)
/-- A slice of expressions. -/
def SlE (w : World) (D : Nat → Prop) (V : Value) (x : Ef) : Prop := ∃ a c, V = .slice a x.len c ∧ x.len < 1099511627776 ∧ (x = .nil ∨ ∃ b o, a = some ⟨b, o, none⟩ ∧ EfAt w D x b o)
def SfAt (w : World) (D : Nat → Prop) : Sf → Nat → Nat → Prop
  | .nil, _, _ => True
  | .cons kind n ao an ak bo bn bk body els rest, b, o => D b ∧ an < 18446744073709551616 ∧ bn < 18446744073709551616 ∧ w.cell? ⟨b, o, none⟩ = some (.int .i64 kind) ∧ w.cell? ⟨b, o + 1, none⟩ = some (.int .i64 n) ∧
    w.cell? ⟨b, o + 2, none⟩ = some (.int .i64 ao) ∧ w.cell? ⟨b, o + 3, none⟩ = some (.int .u64 an) ∧ (∃ V, w.cell? ⟨b, o + 4, none⟩ = some V ∧ SlE w D V ak) ∧
    w.cell? ⟨b, o + 5, none⟩ = some (.int .i64 bo) ∧ w.cell? ⟨b, o + 6, none⟩ = some (.int .u64 bn) ∧ (∃ V, w.cell? ⟨b, o + 7, none⟩ = some V ∧ SlE w D V bk) ∧
    (∃ a c, w.cell? ⟨b, o + 8, none⟩ = some (.slice a body.len c) ∧ body.len < 1099511627776 ∧ (body = .nil ∨ ∃ b' o', a = some ⟨b', o', none⟩ ∧ SfAt w D body b' o')) ∧
    (∃ a c, w.cell? ⟨b, o + 9, none⟩ = some (.slice a els.len c) ∧ els.len < 1099511627776 ∧ (els = .nil ∨ ∃ b' o', a = some ⟨b', o', none⟩ ∧ SfAt w D els b' o')) ∧ SfAt w D rest b (o + 10)
/-- A slice of statements. -/
def SlS (w : World) (D : Nat → Prop) (V : Value) (x : Sf) : Prop := ∃ a c, V = .slice a x.len c ∧ x.len < 1099511627776 ∧ (x = .nil ∨ ∃ b o, a = some ⟨b, o, none⟩ ∧ SfAt w D x b o)
def FnAt (w : World) (D : Nat → Prop) (fn : Fn) (b o : Nat) : Prop := D b ∧ w.cell? ⟨b, o, none⟩ = some (.int .i64 fn.params) ∧ w.cell? ⟨b, o + 1, none⟩ = some (.int .i64 fn.locals) ∧ ∃ V, w.cell? ⟨b, o + 2, none⟩ = some V ∧ SlS w D V fn.body
/-- A slice of functions. -/
def SlP (w : World) (D : Nat → Prop) (V : Value) (p : List Fn) : Prop := ∃ a c, V = .slice a p.length c ∧ p.length < 1099511627776 ∧ (p = [] ∨ ∃ b o, a = some ⟨b, o, none⟩ ∧ ∀ i fn, p[i]? = some fn → FnAt w D fn b (o + 3 * i))
section
variable {w w' : World} {D : Nat → Prop} {S : Nat → Prop}
theorem EfAt.kept (hk : Kept S w w') (hn : ∀ k, D k → ¬ S k) : ∀ (x : Ef) (b o : Nat), EfAt w D x b o → EfAt w' D x b o
  | .nil, _, _, _ => trivial
  | .cons op n kids rest, b, o, h => by
    obtain ⟨h1, h2, h3, h4, ⟨a, c, h5, hl, h6⟩, h7⟩ := h
    refine ⟨h1, h2, hk.cell (hn _ h1) h3, hk.cell (hn _ h1) h4, ⟨a, c, hk.cell (hn _ h1) h5, hl, ?_⟩, EfAt.kept hk hn rest b (o + 3) h7⟩
    rcases h6 with h6 | ⟨b', o', rfl, h6⟩
    · exact .inl h6
    · exact .inr ⟨b', o', rfl, EfAt.kept hk hn kids b' o' h6⟩
theorem SlE.kept (hk : Kept S w w') (hn : ∀ k, D k → ¬ S k) {V : Value} {x : Ef} (h : SlE w D V x) : SlE w' D V x := by
  obtain ⟨a, c, rfl, hl, h⟩ := h
  refine ⟨a, c, rfl, hl, ?_⟩
  rcases h with h | ⟨b, o, rfl, h⟩
  · exact .inl h
  · exact .inr ⟨b, o, rfl, EfAt.kept hk hn x b o h⟩
theorem SfAt.kept (hk : Kept S w w') (hn : ∀ k, D k → ¬ S k) : ∀ (x : Sf) (b o : Nat), SfAt w D x b o → SfAt w' D x b o
  | .nil, _, _, _ => trivial
  | .cons kind n ao an ak bo bn bk body els rest, b, o, h => by
    obtain ⟨h1, h2, h3, h4, h5, h6, h7, ⟨V, h8, h9⟩, h10, h11, ⟨U, h12, h13⟩, ⟨a, c, h14, hl, h15⟩, ⟨a', c', h16, hl', h17⟩, h18⟩ := h
    have c := fun {i v} => hk.cell (o := i) (v := v) (hn _ h1)
    refine ⟨h1, h2, h3, c h4, c h5, c h6, c h7, ⟨V, c h8, h9.kept hk hn⟩, c h10, c h11, ⟨U, c h12, h13.kept hk hn⟩, ⟨a, _, c h14, hl, ?_⟩, ⟨a', c', c h16, hl', ?_⟩, SfAt.kept hk hn rest b (o + 10) h18⟩
    · rcases h15 with h | ⟨b', o', rfl, h⟩
      · exact .inl h
      · exact .inr ⟨b', o', rfl, SfAt.kept hk hn body b' o' h⟩
    · rcases h17 with h | ⟨b', o', rfl, h⟩
      · exact .inl h
      · exact .inr ⟨b', o', rfl, SfAt.kept hk hn els b' o' h⟩
theorem SlS.kept (hk : Kept S w w') (hn : ∀ k, D k → ¬ S k) {V : Value} {x : Sf} (h : SlS w D V x) : SlS w' D V x := by
  obtain ⟨a, c, rfl, hl, h⟩ := h
  refine ⟨a, c, rfl, hl, ?_⟩
  rcases h with h | ⟨b, o, rfl, h⟩
  · exact .inl h
  · exact .inr ⟨b, o, rfl, SfAt.kept hk hn x b o h⟩
theorem SlP.kept (hk : Kept S w w') (hn : ∀ k, D k → ¬ S k) {V : Value} {p : List Fn} (h : SlP w D V p) : SlP w' D V p := by
  obtain ⟨a, c, rfl, hl, h⟩ := h
  refine ⟨a, c, rfl, hl, ?_⟩
  rcases h with h | ⟨b, o, rfl, h⟩
  · exact .inl h
  · refine .inr ⟨b, o, rfl, fun i fn hi => ?_⟩
    obtain ⟨h1, h2, h3, U, h4, h5⟩ := h i fn hi
    exact ⟨h1, hk.cell (hn _ h1) h2, hk.cell (hn _ h1) h3, U, hk.cell (hn _ h1) h4, h5.kept hk hn⟩
end
/-- A function's frame. -/
def fc (L : Nat → Nat) (v : Nat) : Nat → Value := fun i => if i < 24 then .int .u64 (L i) else .int .u64 v
section
variable {w w' : World} {r f : Nat} {pv sv : Value} {s : Rs} {L : Nat → Nat} {v : Nat} {S : Nat → Prop}
theorem kept_drew9 (w : World) : Kept (fun _ => False) w w.drew := (Kept.refl _ w).drew
end
end Ir
end Go.Proofs.YtbenjgncbpafbaaGreatDoor
namespace Go.Proofs.YtbenjgncbpafbaaGreatDoor
open Go.RowKit
set_option linter.unusedVariables false
set_option linter.unusedSimpArgs false
namespace Ir
open Kc
theorem Kept.after {S : Nat → Prop} {a b c : World} (h : Kept (fun _ => False) a b) (k : Kept S b c) : Kept S a c := (h.mono fun _ _ e => e.elim).trans k fun _ _ e => e
end Ir
end Go.Proofs.YtbenjgncbpafbaaGreatDoor
namespace Go.Proofs.YtbenjgncbpafbaaGreatDoor
open Go.RowKit
set_option linter.unusedVariables false
set_option linter.unusedSimpArgs false
namespace Ir
open Kc
theorem undX : Tryz.prog.underlying 47 = some (.struct (Tryz.prog.fieldsOf 47)) := by kernel_rfl
theorem infX : (Tryz.prog.info? 47).map (·.size) = some 3 := by kernel_rfl
theorem undT : Tryz.prog.underlying 50 = some (.struct (Tryz.prog.fieldsOf 50)) := by kernel_rfl
theorem infT : (Tryz.prog.info? 50).map (·.size) = some 10 := by kernel_rfl
theorem loadX {w : World} {b o : Nat} {l0 l1 l2 : Value} (h0 : w.cell? ⟨b, o, none⟩ = some l0) (h1 : w.cell? ⟨b, o + 1, none⟩ = some l1) (h2 : w.cell? ⟨b, o + 2, none⟩ = some l2) : (Instr.loadAt 47 (.pointer (some ⟨b, o, none⟩))).run Tryz.prog w = .ok (.agg #[l0, l1, l2]) w := by
  refine run_loadAt_mid w b o _ [l0, l1, l2] _ (fun i v hv => ?_) undX rfl (by rw [infX]; rfl)
  match i, hv with
  | 0, hv => cases hv; exact h0
  | 1, hv => cases hv; exact h1
  | 2, hv => cases hv; exact h2
  | i + 3, hv => simp at hv
theorem loadT {w : World} {b o : Nat} {l0 l1 l2 l3 l4 l5 l6 l7 l8 l9 : Value} (h0 : w.cell? ⟨b, o, none⟩ = some l0) (h1 : w.cell? ⟨b, o + 1, none⟩ = some l1) (h2 : w.cell? ⟨b, o + 2, none⟩ = some l2) (h3 : w.cell? ⟨b, o + 3, none⟩ = some l3) (h4 : w.cell? ⟨b, o + 4, none⟩ = some l4)
    (h5 : w.cell? ⟨b, o + 5, none⟩ = some l5) (h6 : w.cell? ⟨b, o + 6, none⟩ = some l6) (h7 : w.cell? ⟨b, o + 7, none⟩ = some l7) (h8 : w.cell? ⟨b, o + 8, none⟩ = some l8) (h9 : w.cell? ⟨b, o + 9, none⟩ = some l9) :
    (Instr.loadAt 50 (.pointer (some ⟨b, o, none⟩))).run Tryz.prog w = .ok (.agg #[l0, l1, l2, l3, l4, l5, l6, l7, l8, l9]) w := by
  refine run_loadAt_mid w b o _ [l0, l1, l2, l3, l4, l5, l6, l7, l8, l9] _ (fun i v hv => ?_) undT rfl (by rw [infT]; rfl)
  match i, hv with
  | 0, hv => cases hv; exact h0
  | 1, hv => cases hv; exact h1
  | 2, hv => cases hv; exact h2
  | 3, hv => cases hv; exact h3
  | 4, hv => cases hv; exact h4
  | 5, hv => cases hv; exact h5
  | 6, hv => cases hv; exact h6
  | 7, hv => cases hv; exact h7
  | 8, hv => cases hv; exact h8
  | 9, hv => cases hv; exact h9
  | i + 10, hv => simp at hv
/-- A block of an expression, or of a statement, of its own. -/
theorem xc {w : World} {l : Array Value} {T : Nat} (i : Nat) (v : Value) (h : l[i]? = some v) : (w.alloc (.cells l T)).cell? ⟨w.heap.size, i, none⟩ = some v := by
  rw [cell_of_row _ _ i _ _ _ (heap_alloc_new w _)]; simpa using h
/-- An expression of its own. -/
structure Bx (w : World) (q : Nat) (l0 l1 l2 : Value) : Prop where
  c0 : w.cell? ⟨q, 0, none⟩ = some l0
  c1 : w.cell? ⟨q, 1, none⟩ = some l1
  c2 : w.cell? ⟨q, 2, none⟩ = some l2
theorem Bx.new (w : World) (l0 l1 l2 : Value) (T : Nat) : Bx (w.alloc (.cells #[l0, l1, l2] T)) w.heap.size l0 l1 l2 := ⟨xc 0 _ rfl, xc 1 _ rfl, xc 2 _ rfl⟩
theorem Bx.kept {w w' : World} {q : Nat} {l0 l1 l2 : Value} {S : Nat → Prop} (h : Bx w q l0 l1 l2) (hk : Kept S w w') (hn : ¬ S q) : Bx w' q l0 l1 l2 := ⟨hk.cell hn h.c0, hk.cell hn h.c1, hk.cell hn h.c2⟩
theorem Bx.load {w : World} {q : Nat} {l0 l1 l2 : Value} (h : Bx w q l0 l1 l2) : (Instr.loadAt 47 (.pointer (some ⟨q, 0, none⟩))).run Tryz.prog w = .ok (.agg #[l0, l1, l2]) w := loadX h.c0 h.c1 h.c2
/-- A statement of its own. -/
structure Bt10 (w : World) (q : Nat) (l0 l1 l2 l3 l4 l5 l6 l7 l8 l9 : Value) : Prop where
  c0 : w.cell? ⟨q, 0, none⟩ = some l0
  c1 : w.cell? ⟨q, 1, none⟩ = some l1
  c2 : w.cell? ⟨q, 2, none⟩ = some l2
  c3 : w.cell? ⟨q, 3, none⟩ = some l3
  c4 : w.cell? ⟨q, 4, none⟩ = some l4
  c5 : w.cell? ⟨q, 5, none⟩ = some l5
  c6 : w.cell? ⟨q, 6, none⟩ = some l6
  c7 : w.cell? ⟨q, 7, none⟩ = some l7
  c8 : w.cell? ⟨q, 8, none⟩ = some l8
  c9 : w.cell? ⟨q, 9, none⟩ = some l9
theorem Bt10.new (w : World) (l0 l1 l2 l3 l4 l5 l6 l7 l8 l9 : Value) (T : Nat) : Bt10 (w.alloc (.cells #[l0, l1, l2, l3, l4, l5, l6, l7, l8, l9] T)) w.heap.size l0 l1 l2 l3 l4 l5 l6 l7 l8 l9 := ⟨xc 0 _ rfl, xc 1 _ rfl, xc 2 _ rfl, xc 3 _ rfl, xc 4 _ rfl, xc 5 _ rfl, xc 6 _ rfl, xc 7 _ rfl, xc 8 _ rfl, xc 9 _ rfl⟩
section
variable {w w' : World} {q : Nat} {l0 l1 l2 l3 l4 l5 l6 l7 l8 l9 : Value} {S : Nat → Prop}
theorem Bt10.kept (h : Bt10 w q l0 l1 l2 l3 l4 l5 l6 l7 l8 l9) (hk : Kept S w w') (hn : ¬ S q) : Bt10 w' q l0 l1 l2 l3 l4 l5 l6 l7 l8 l9 :=
  ⟨hk.cell hn h.c0, hk.cell hn h.c1, hk.cell hn h.c2, hk.cell hn h.c3, hk.cell hn h.c4, hk.cell hn h.c5, hk.cell hn h.c6, hk.cell hn h.c7, hk.cell hn h.c8, hk.cell hn h.c9⟩
theorem Bt10.load (h : Bt10 w q l0 l1 l2 l3 l4 l5 l6 l7 l8 l9) : (Instr.loadAt 50 (.pointer (some ⟨q, 0, none⟩))).run Tryz.prog w = .ok (.agg #[l0, l1, l2, l3, l4, l5, l6, l7, l8, l9]) w := loadT h.c0 h.c1 h.c2 h.c3 h.c4 h.c5 h.c6 h.c7 h.c8 h.c9
theorem Bt10.loadA (h : Bt10 w q l0 l1 l2 l3 l4 l5 l6 l7 l8 l9) : (Instr.loadAt 47 (.pointer (some ⟨q, 2, none⟩))).run Tryz.prog w = .ok (.agg #[l2, l3, l4]) w := loadX h.c2 h.c3 h.c4
theorem Bt10.loadB (h : Bt10 w q l0 l1 l2 l3 l4 l5 l6 l7 l8 l9) : (Instr.loadAt 47 (.pointer (some ⟨q, 5, none⟩))).run Tryz.prog w = .ok (.agg #[l5, l6, l7]) w := loadX h.c5 h.c6 h.c7
end
section
variable {pv sv : Value} {prog : List Fn} {D : Nat → Prop}
end
end Ir
end Go.Proofs.YtbenjgncbpafbaaGreatDoor
namespace Go.Proofs.YtbenjgncbpafbaaGreatDoor
open Go.RowKit
set_option linter.unusedVariables false
set_option linter.unusedSimpArgs false
namespace Ir
open Kc
section
variable {W y y' : World} {D : Nat → Prop} {pv sv : Value} {prog : List Fn} {r f : Nat} {L L' : Nat → Nat} {v v' : Nat} {s s' : Rs}
end
section
variable {pv sv : Value} {prog : List Fn} {D : Nat → Prop}
theorem wrap_i {i : Nat} (h : i < 1099511627776) : wrap64 ((i : Int) + 1) = ((i + 1 : Nat) : Int) := by unfold wrap64; omega
/-- A statement of noughts. -/
abbrev zT : Array Value := #[.int .i64 0, .int .i64 0, .int .i64 0, .int .u64 0, .slice none 0 0, .int .i64 0, .int .u64 0, .slice none 0 0, .slice none 0 0, .slice none 0 0]
theorem meas9 {i n : Nat} (h : i < n) (hw : wrap64 ((i : Int) + 1) = ((i + 1 : Nat) : Int)) : n - (intOf (.int .i64 (wrap64 ((i : Int) + 1)))).toNat < n - (intOf (.int .i64 (i : Int))).toNat := by
  rw [hw]; simp only [intOf]; omega
end
end Ir
end Go.Proofs.YtbenjgncbpafbaaGreatDoor
namespace Go.Proofs.YtbenjgncbpafbaaGreatDoor
open Go.RowKit
set_option linter.unusedVariables false
set_option linter.unusedSimpArgs false
namespace Ir
open Kc
section
variable {pv sv : Value} {prog : List Fn} {D : Nat → Prop}
end
end Ir
end Go.Proofs.YtbenjgncbpafbaaGreatDoor
namespace Go.Proofs.YtbenjgncbpafbaaGreatDoor
open Go.RowKit
set_option linter.unusedVariables false
set_option linter.unusedSimpArgs false
namespace Ir
open Kc
theorem least {P : Nat → Prop} : ∀ k, P k → ∃ m, P m ∧ ∀ j, P j → m ≤ j
  | 0, h => ⟨0, h, fun j _ => Nat.zero_le j⟩
  | k + 1, h => by
    by_cases h2 : ∃ j, j ≤ k ∧ P j
    · obtain ⟨j, hj, hp⟩ := h2
      have : ∀ n, ∀ j, j ≤ n → P j → ∃ m, P m ∧ ∀ j, P j → m ≤ j := by
        intro n
        induction n with
        | zero => intro j hj hp; have : j = 0 := by omega
                  subst this; exact ⟨0, hp, fun j _ => Nat.zero_le j⟩
        | succ n ih =>
          intro j hj hp
          by_cases h3 : ∃ i, i ≤ n ∧ P i
          · obtain ⟨i, hi, hpi⟩ := h3; exact ih i hi hpi
          · refine ⟨j, hp, fun i hpi => ?_⟩
            have : ¬ i ≤ n := fun h4 => h3 ⟨i, h4, hpi⟩
            omega
      exact this k j hj hp
    · exact ⟨k + 1, h, fun j hj => by have : ¬ j ≤ k := fun h4 => h2 ⟨j, h4, hj⟩
                                      omega⟩
open Classical in
noncomputable def mu (P : Nat → Prop) : Nat := if h : ∃ k, P k then Classical.choose (least h.choose h.choose_spec) else 0
section
variable {pv sv : Value} {prog : List Fn} {D : Nat → Prop}
end
end Ir
end Go.Proofs.YtbenjgncbpafbaaGreatDoor
namespace Go.Proofs.YtbenjgncbpafbaaGreatDoor
open Go.RowKit
set_option linter.unusedVariables false
set_option linter.unusedSimpArgs false
namespace Ir
open Kc
section
variable {pv sv : Value} {prog : List Fn} {D : Nat → Prop}
end
end Ir
end Go.Proofs.YtbenjgncbpafbaaGreatDoor
namespace Go.Proofs.YtbenjgncbpafbaaGreatDoor
open Go.RowKit
set_option linter.unusedVariables false
set_option linter.unusedSimpArgs false
namespace Ir
open Kc
section
variable {W y y' : World} {D : Nat → Prop} {pv sv : Value} {prog : List Fn} {r f : Nat} {L A : Nat → Nat} {fv n q q2 : Nat} {op : Int} {V : Value} {s s' : Rs}
end
section
variable {pv sv : Value} {prog : List Fn} {D : Nat → Prop}
theorem meas9b {i n : Nat} (h : i < n) : n - (intOf (.int .i64 ((i : Int) + 1))).toNat < n - (intOf (.int .i64 (i : Int))).toNat := by
  simp only [intOf]; omega
theorem kept_alloc9 (w : World) (o : Obj) : Kept (fun _ => False) w (w.alloc o) := (Kept.refl _ w).alloc o
abbrev zX : Array Value := #[.int .i64 0, .int .u64 0, .slice none 0 0]
end
end Ir
end Go.Proofs.YtbenjgncbpafbaaGreatDoor
namespace Go.Proofs.YtbenjgncbpafbaaGreatDoor
open Go.RowKit
set_option linter.unusedVariables false
set_option linter.unusedSimpArgs false
namespace Ir
open Kc
/-- All of a list. -/
def All (Q : Int → Nat → Ef → Prop) : Ef → Prop
  | .nil => True
  | .cons op n kids rest => Q op n kids ∧ All Q rest
/-- An expression is not too deep. -/
def DX (d : Nat) (op : Int) (n : Nat) (kids : Ef) : Prop := ∀ (w : World) (D : Nat → Prop) (V : Value), SlE w D V kids → Calls Tryz.prog 42 #[.agg #[.int .i64 op, .int .u64 n, V], .int .i64 d] w fun e w' => e = .returned (.bool false) ∧ Kept (fun _ => False) w w'
set_option maxHeartbeats 4000000 in
set_option maxRecDepth 100000 in
theorem deepX_walk (d : Nat) (op : Int) (n : Nat) (kids : Ef) (hd : d < 1000) (hall : All (DX d) kids) : DX (d + 1) op n kids := by
  intro w D V hK
  have td : ((((d + 1 : Nat) : Nat) : Int) == 0) = false := by simp; omega
  have hwd : wrap64 (((d + 1 : Nat) : Int) - 1) = (d : Int) := by unfold wrap64; omega
  generalize hdd : ((d + 1 : Nat) : Int) = dd at *
  clear hdd
  obtain ⟨a, c, rfl, hkl, hK⟩ := hK
  obtain ⟨m, hm⟩ : ∃ m, kids.len = m := ⟨_, rfl⟩
  rw [hm] at hkl ⊢
  have hk0 := kept_alloc9 w (.cells #[.int .i64 op, .int .u64 n, .slice a m c] 47)
  have HB := Lib.hid (Bx.new w (.int .i64 op) (.int .u64 n) (.slice a m c) 47)
  have HE := Lib.hid (show kids = .nil ∨ ∃ b o, a = some ⟨b, o, none⟩ ∧ EfAt (w.alloc (.cells #[.int .i64 op, .int .u64 n, .slice a m c] 47)) D kids b o by
    rcases hK with e | ⟨b, o, e, h⟩
    · exact .inl e
    · exact .inr ⟨b, o, e, EfAt.kept hk0 (fun _ _ => id) kids b o h⟩)
  have HK0 := Lib.hid hk0
  have HM := Lib.hid (And.intro hkl hm)
  have HAL := Lib.hid hall
  clear hall
  clear hk0 hK hkl
  clear hm
  go_enter Tryz.func42, Tryz.ntmps42
  go_upto_region 1 with (fail)
  generalize w.alloc (.cells #[.int .i64 op, .int .u64 n, .slice a m c] 47) = y0 at *
  generalize w.heap.size = q at *
  have k2 := HB.out.c2
  go_upto_region 4 with (fail)
  clear k2
  go_loopw [12] (fun t wr => ∃ i : Nat, t = .int .i64 i ∧ Hid (∃ y, i + y.len = m ∧ All (DX d) y ∧ (y = .nil ∨ ∃ b o, a = some ⟨b, o, none⟩ ∧ EfAt wr D y b (o + i * 3)) ∧ Kept (fun _ => False) w wr)) (fun t _ => m - (intOf t).toNat)
  case atStart => exact ⟨0, rfl, Lib.hid ⟨kids, by have := HM.out.2; omega, HAL.out, by simpa using HE.out, HK0.out⟩⟩
  case round =>
    obtain ⟨i, rfl, hp⟩ := hrel
    obtain ⟨y, hi, hall, hat, hkp⟩ := hp.out
    clear hp
    have HKP := Lib.hid hkp
    clear hkp
    cases y with
    | nil =>
      have t1 : decide (i < m) = false := by simp [Ef.len] at hi; simp; omega
      go_wp2_with (fail)
      exact bodyPost_ret (v := .bool false) (by simp [results, Tryz.results42, go_sem]) rfl ⟨rfl, HKP.out⟩
    | cons op1 n1 kd rest =>
      obtain ⟨b, o, ha, hb⟩ : ∃ b o, a = some ⟨b, o, none⟩ ∧ EfAt wr D (.cons op1 n1 kd rest) b (o + i * 3) := by
        rcases hat with h | h
        · cases h
        · exact h
      clear hat
      subst ha
      have hin : i < m := by simp [Ef.len] at hi; omega
      have t1 : decide (i < m) = true := by simp; omega
      have hi0 : (i : Int) < (m : Int) := by omega
      have HI : Hid (i + 1 + rest.len = m ∧ i < m ∧ wrap64 ((i : Int) + 1) = ((i + 1 : Nat) : Int)) := Lib.hid ⟨by simp [Ef.len] at hi; omega, hin, wrap_i (by have := HM.out.1; omega)⟩
      unfold EfAt at hb
      obtain ⟨h1, h2, h3, h4, ⟨a1, c1, h5, h6, h7⟩, h8⟩ := hb
      have hk1 := kept_alloc9 wr (.cells #[.int .i64 op1, .int .u64 n1, .slice a1 kd.len c1] 47)
      have HLE := Lib.hid (loadX h3 h4 h5)
      have HL2 := Lib.hid (Bx.new wr (.int .i64 op1) (.int .u64 n1) (.slice a1 kd.len c1) 47).load
      have HE5 := Lib.hid (EfAt.kept hk1 (fun _ _ => id) rest b (o + i * 3 + 3) h8)
      have HS5 := SlE.kept hk1 (fun _ _ => id) (show SlE wr D (.slice a1 kd.len c1) kd from ⟨a1, c1, rfl, h6, h7⟩)
      have HC := Lib.hid (hall.1 _ D _ HS5)
      have HG9 : Hid ((Tryz.prog.info? 47).map (·.size) = some (#[.int .i64 op1, .int .u64 n1, .slice a1 kd.len c1] : Array Value).size ∧ zX.size = (#[.int .i64 op1, .int .u64 n1, .slice a1 kd.len c1] : Array Value).size ∧ (#[.int .i64 op1, .int .u64 n1, .slice a1 kd.len c1] : Array Value).all (·.oneCell') = true) := Lib.hid ⟨infX, rfl, by simp [Value.oneCell']⟩
      have HR := Lib.hid hall
      have HK5 := Lib.hid (HKP.out.trans hk1 fun _ _ h => h)
      clear h1 h2 h3 h4 h5 h6 h7 h8 hk1 hi hin hall HKP HS5
      generalize (#[.int .i64 op1, .int .u64 n1, .slice a1 kd.len c1] : Array Value) = ag at *
      go_upto_region 6 with (first
        | ((with_reducible refine wpList_loadE (P := Tryz.prog) (w := wr) (ty := 47) (x := .tmp 14) (p := .pointer (some ⟨b, o + i * 3, none⟩)) (v := .agg ag) ?_ ?_ ?_ HLE.out ?_); (· exact rfl); (· exact rfl); (· exact rfl))
        | ((with_reducible refine wpList_store_row (P := Tryz.prog) (w := wr.alloc (.cells zX 47)) ?_ 47 (.tmp 6) (.tmp 15) ?_ wr.heap.size ag ?_ ?_ 47 zX (heap_alloc_last wr _) HG9.out.1 HG9.out.2.1 HG9.out.2.2 ?_); (· exact rfl); (· exact rfl); (· exact rfl); (· exact rfl); rw [World.setRow_alloc_new]; simp only [Act.put]))
      clear HLE HG9
      generalize wr.alloc (.cells ag 47) = y5 at *
      generalize wr.heap.size = qa at *
      have hw1 := HI.out.2.2
      go_wp2_with (first
        | ((with_reducible refine wpList_loadE (P := Tryz.prog) (w := y5) (ty := 47) (x := .tmp 6) (p := .pointer (some ⟨qa, 0, none⟩)) (v := .agg ag) ?_ ?_ ?_ HL2.out ?_); (· exact rfl); (· exact rfl); (· exact rfl))
        | (go_at_call 42; (with_reducible refine HC.out.mono ?_); rintro e y6 ⟨he, hk6⟩; obtain rfl : e = _ := he; have HK6 := Lib.hid hk6; clear hk6 HC))
      have HE6 := Lib.hid (EfAt.kept HK6.out (fun _ _ => id) rest b (o + i * 3 + 3) HE5.out)
      go_roundw
      case rel => exact ⟨i + 1, by go_num, Lib.hid ⟨rest, HI.out.1, HR.out.2, .inr ⟨b, o, rfl, by rw [show o + (i + 1) * 3 = o + i * 3 + 3 from by omega]; exact HE6.out⟩, HK5.out.trans HK6.out fun _ _ h => h⟩⟩
      case measure => first | exact meas9 HI.out.2.1 HI.out.2.2 | exact meas9b HI.out.2.1
theorem deepX_all : ∀ (x : Ef) (d : Nat), d < 1000 → fitE x d = true → All (DX d) x
  | .nil, _, _, _ => trivial
  | .cons op n kids rest, d, hd, h => by
    unfold fitE at h
    simp only [Bool.and_eq_true, decide_eq_true_eq] at h
    obtain ⟨k, rfl⟩ : ∃ k, d = k + 1 := ⟨d - 1, by omega⟩
    exact ⟨deepX_walk k op n kids (by omega) (deepX_all kids k (by omega) h.1.2), deepX_all rest (k + 1) hd h.2⟩
end Ir
end Go.Proofs.YtbenjgncbpafbaaGreatDoor
