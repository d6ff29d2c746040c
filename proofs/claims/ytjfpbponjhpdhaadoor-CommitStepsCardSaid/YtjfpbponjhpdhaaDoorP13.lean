/- Merged of Yf Yg Yh Yj Yk Yl. Own work. -/
import Derived.Test.YtjfpbponjhpdhaaDoorP12
import Derived.Test.YtjfpbponjhpdhaaDoorP10
import Derived.StillTailTactics
import Derived.Test.YtjfpbponjhpdhaaDoorP04
namespace Go.Proofs.YtjfpbponjhpdhaaDoor
open Go.RowKit
set_option linter.unusedVariables false
set_option linter.unusedSimpArgs false
namespace Vm
open Kc
/-- What stands ahead of a step's switch. -/
structure Pre (w : World) (b : Nat) (M : Mac) (x : Nat) : Prop where
  mac : IsMac w b M
  ok : OkM M
  hh : M.halted = false
  pc : M.pc < 8192
  hx : M.mem M.pc = x
  pok : pOk x = true
/-- A number as a word. -/
def wN (z : Int) : Nat := (IntKind.u64.wrap z).toNat
theorem wN_eq (z : Int) : IntKind.u64.wrap z = ((wN z : Nat) : Int) := by
  unfold wN
  have : IntKind.u64.wrap z = z % 18446744073709551616 := by simp [IntKind.wrap, IntKind.bits, IntKind.signed]
  rw [this]; omega
theorem wN_lt (z : Int) : wN z < 18446744073709551616 := by
  unfold wN
  have : IntKind.u64.wrap z = z % 18446744073709551616 := by simp [IntKind.wrap, IntKind.bits, IntKind.signed]
  rw [this]; omega
theorem wrap_pc {p : Nat} (h : p < 8192) : IntKind.u64.wrap ((p : Int) + 1) = ((p + 1 : Nat) : Int) := by
  rw [IntWalk.u64_in _ (by omega)]; omega
theorem ix16 (b i : Nat) (hi : i < 16) (w : World) : (Instr.indexAt 35 (.pointer (some ⟨b, 8192, none⟩)) (.int .i64 i)).run Tryd.prog w = .ok (.pointer (some ⟨b, 8192 + i, none⟩)) w := by
  have h1 : (i : Int) < 16 := by omega
  simp [go_sem, h1, Tryd.underlying35]
theorem pD_lt (x : Nat) : pD x < 16 := Nat.mod_lt _ (by decide)
theorem pA_lt (x : Nat) : pA x < 16 := Nat.mod_lt _ (by decide)
theorem pB_lt (x : Nat) : pB x < 16 := Nat.mod_lt _ (by decide)
theorem pC_lt (x : Nat) : pC x < 16 := Nat.mod_lt _ (by decide)
set_option maxHeartbeats 2000000 in
set_option maxRecDepth 100000 in
theorem step_li (w : World) (b s : Nat) (M : Mac) (x : Nat) (h : Pre w b M x) (hop : pOp x = 26) :
    Calls Tryd.prog 36 #[.pointer (some ⟨b, 0, none⟩), .pointer (some ⟨s, 0, none⟩)] w fun e w' => e = .returned (.tuple #[]) ∧ IsMac w' b ({ setR M (pD x) (wN (pN x)) with pc := M.pc + 1 }) ∧ Kept (fun k => k = b) w w' := by
  have k3 : w.cell? ⟨b, 8209, none⟩ = some (.bool false) := h.hh ▸ h.mac.halted
  have k2 := h.mac.pc
  have tpc : decide (8192 ≤ (M.pc : Int)) = false := by have := h.pc; simp; omega
  have HP := Lib.hid h
  have hxb : x < 18446744073709551616 := h.hx ▸ h.ok.mem _
  have HXB := Lib.hid hxb
  clear hxb
  clear h
  go_enter Tryd.func36, Tryd.ntmps36
  go_upto_region 3 with (fail)
  have NE : Nonempty (Wd (fun z => Below w.heap.size w z)) := ⟨⟨w.drew, (Below.refl _ _).drew⟩⟩
  have kpc : ∀ z : Wd (fun z => Below w.heap.size w z), z.val.cell? ⟨b, 8208, none⟩ = some (.int .u64 (M.pc : Int)) := fun z => keep1 z.ok HP.out.mac.pc
  have km : ∀ z : Wd (fun z => Below w.heap.size w z), z.val.cell? ⟨b, M.pc, none⟩ = some (.int .u64 (x : Int)) := fun z => keep1 z.ok (HP.out.hx ▸ HP.out.mac.mem HP.out.pc)
  have hlt : (M.pc : Int) < 8192 := by have := HP.out.pc; omega
  have hpv : Hid (partsV x = .tuple #[.int .i64 (pOp x), .int .i64 (pD x), .int .i64 (pA x), .int .i64 (pB x), .int .i64 (pC x), .int .i64 (pN x), .bool true]) := Lib.hid (if_pos HP.out.pok)
  have Q1 := Lib.hid (fun z : Wd (fun z => Below w.heap.size w z) => in_of_below z (fun y hb => bl z.ok hb) (hpv.out ▸ parts_walk z.val x HXB.out))
  clear k2 k3 tpc
  refine wp_region_in (fun z => Below w.heap.size w z) (by kernel_rfl) (by kernel_rfl) (Below.refl _ _).drew ?_
  repeat (go_big_quiet_step (with_reducible exact Q1.out _))
  refine wpQuiet_nil ?_
  rintro y0 ⟨z, rfl⟩
  have HZ := Lib.hid (HP.out.mac.below z.ok)
  have HB := Lib.hid z.ok
  clear Q1 kpc km NE hlt
  generalize z.val = y at *
  have hd : (pD x : Int) < 16 := by have := pD_lt x; omega
  have kd := HZ.out.reg (pD_lt x)
  have fd := HZ.out.fz (8192 + pD x)
  have HS : Hid (IsMac (y.setCell ⟨b, 8192 + pD x, none⟩ (.int .u64 (IntKind.u64.wrap (pN x)))) b (setR M (pD x) (wN (pN x)))) := Lib.hid (by rw [wN_eq]; exact HZ.out.setReg (pD_lt x) _)
  have HK : Hid (Kept (fun k => k = b) w (y.setCell ⟨b, 8192 + pD x, none⟩ (.int .u64 (IntKind.u64.wrap (pN x))))) := Lib.hid (kept_set (S := fun k => k = b) (Kept.ofBelow HB.out) b _ rfl _)
  go_upto_region 16 with (fail)
  clear kd fd hd
  generalize y.setCell ⟨b, 8192 + pD x, none⟩ (.int .u64 (IntKind.u64.wrap (pN x))) = y1 at *
  have kp := HS.out.pc
  have fp := HS.out.fz 8208
  have HW : Hid (IntKind.u64.wrap ((M.pc : Int) + 1) = ((M.pc + 1 : Nat) : Int)) := Lib.hid (wrap_pc HP.out.pc)
  have H9 : Hid (IsMac (y1.setCell ⟨b, 8208, none⟩ (.int .u64 (IntKind.u64.wrap ((M.pc : Int) + 1)))) b { setR M (pD x) (wN (pN x)) with pc := M.pc + 1 }) := Lib.hid (by rw [HW.out]; exact HS.out.setPc (M.pc + 1))
  have K9 := Lib.hid (kept_set (S := fun k => k = b) HK.out b 8208 rfl (.int .u64 (IntKind.u64.wrap ((M.pc : Int) + 1))))
  generalize hpc : (M.pc : Int) = PC at *
  go_wp2_with (fail)
  subst hpc
  exact bodyPost_end (v := .tuple #[]) (by simp [results, Tryd.results36, go_sem]) rfl ⟨rfl, H9.out, K9.out⟩
set_option maxHeartbeats 2000000 in
set_option maxRecDepth 100000 in
theorem step_halt (w : World) (b s : Nat) (M : Mac) (x : Nat) (h : Pre w b M x) (hop : pOp x = 0) :
    Calls Tryd.prog 36 #[.pointer (some ⟨b, 0, none⟩), .pointer (some ⟨s, 0, none⟩)] w fun e w' => e = .returned (.tuple #[]) ∧ IsMac w' b (stopM { M with pc := M.pc + 1 } (M.reg (pA x))) ∧ Kept (fun k => k = b) w w' := by
  have k3 : w.cell? ⟨b, 8209, none⟩ = some (.bool false) := h.hh ▸ h.mac.halted
  have k2 := h.mac.pc
  have tpc : decide (8192 ≤ (M.pc : Int)) = false := by have := h.pc; simp; omega
  have HP := Lib.hid h
  have hxb : x < 18446744073709551616 := h.hx ▸ h.ok.mem _
  have HXB := Lib.hid hxb
  clear hxb
  clear h
  go_enter Tryd.func36, Tryd.ntmps36
  go_upto_region 3 with (fail)
  have NE : Nonempty (Wd (fun z => Below w.heap.size w z)) := ⟨⟨w.drew, (Below.refl _ _).drew⟩⟩
  have kpc : ∀ z : Wd (fun z => Below w.heap.size w z), z.val.cell? ⟨b, 8208, none⟩ = some (.int .u64 (M.pc : Int)) := fun z => keep1 z.ok HP.out.mac.pc
  have km : ∀ z : Wd (fun z => Below w.heap.size w z), z.val.cell? ⟨b, M.pc, none⟩ = some (.int .u64 (x : Int)) := fun z => keep1 z.ok (HP.out.hx ▸ HP.out.mac.mem HP.out.pc)
  have hlt : (M.pc : Int) < 8192 := by have := HP.out.pc; omega
  have hpv : Hid (partsV x = .tuple #[.int .i64 (pOp x), .int .i64 (pD x), .int .i64 (pA x), .int .i64 (pB x), .int .i64 (pC x), .int .i64 (pN x), .bool true]) := Lib.hid (if_pos HP.out.pok)
  have Q1 := Lib.hid (fun z : Wd (fun z => Below w.heap.size w z) => in_of_below z (fun y hb => bl z.ok hb) (hpv.out ▸ parts_walk z.val x HXB.out))
  clear k2 k3 tpc
  refine wp_region_in (fun z => Below w.heap.size w z) (by kernel_rfl) (by kernel_rfl) (Below.refl _ _).drew ?_
  repeat (go_big_quiet_step (with_reducible exact Q1.out _))
  refine wpQuiet_nil ?_
  rintro y0 ⟨z, rfl⟩
  have HZ := Lib.hid (HP.out.mac.below z.ok)
  have HB := Lib.hid z.ok
  clear Q1 kpc km NE hlt
  generalize z.val = y at *
  have ha : (pA x : Int) < 16 := by have := pA_lt x; omega
  have kp := HZ.out.pc
  have fp := HZ.out.fz 8208
  have HW : Hid (IntKind.u64.wrap ((M.pc : Int) + 1) = ((M.pc + 1 : Nat) : Int)) := Lib.hid (wrap_pc HP.out.pc)
  have HS : Hid (IsMac (y.setCell ⟨b, 8208, none⟩ (.int .u64 (IntKind.u64.wrap ((M.pc : Int) + 1)))) b { M with pc := M.pc + 1 }) := Lib.hid (by rw [HW.out]; exact HZ.out.setPc (M.pc + 1))
  have HK : Hid (Kept (fun k => k = b) w (y.setCell ⟨b, 8208, none⟩ (.int .u64 (IntKind.u64.wrap ((M.pc : Int) + 1))))) := Lib.hid (kept_set (S := fun k => k = b) (Kept.ofBelow HB.out) b _ rfl _)
  go_upto_region 10 with (fail)
  clear kp fp
  generalize y.setCell ⟨b, 8208, none⟩ (.int .u64 (IntKind.u64.wrap ((M.pc : Int) + 1))) = y1 at *
  have ka := HS.out.reg (pA_lt x)
  have HC := Lib.hid (stop_walk y1 b (M.reg (pA x)) _ HS.out)
  go_wp2_with (go_at_call 57; (with_reducible refine HC.out.mono ?_); rintro e y2 ⟨he, hm, hk⟩; obtain rfl : e = _ := he; have HM2 := Lib.hid hm; have HK2 := Lib.hid hk; clear hm hk)
  exact bodyPost_end (v := .tuple #[]) (by simp [results, Tryd.results36, go_sem]) rfl ⟨rfl, HM2.out, HK.out.trans HK2.out fun _ _ h => h⟩
end Vm
end Go.Proofs.YtjfpbponjhpdhaaDoor
namespace Go.Proofs.YtjfpbponjhpdhaaDoor
open Go.RowKit
set_option linter.unusedVariables false
set_option linter.unusedSimpArgs false
namespace Wt
end Wt
namespace Vm
open Kc
set_option maxHeartbeats 1000000 in
set_option maxRecDepth 100000 in
theorem load_walk (w : World) (bw ow n c : Nat) (g : Nat → Nat) (h : IsWs w bw ow n g) (hn : n ≤ 8192) :
    Calls Tryd.prog 7 #[.slice (some ⟨bw, ow, none⟩) n c] w fun e w' => e = .returned (.tuple #[.pointer (some ⟨w.heap.size, 0, none⟩), .nilIface]) ∧ IsMac w' w.heap.size (loaded n g) ∧ Below w.heap.size w w' := by
  have t1 : decide (8192 < (n : Int)) = false := by simp; omega
  have HBM := Lib.hid (buildM0 w)
  have HT : Hid (IsTab (w.alloc (.cells (tab 8211 (mc m0)) 37)) w.heap.size 37 8211 (mc m0)) := Lib.hid (IsTab.new w _ 8211 _)
  have HB : Hid (Below w.heap.size w (w.alloc (.cells (tab 8211 (mc m0)) 37))) := Lib.hid ((Below.refl _ _).alloc (Nat.le_refl _) _)
  have HC : Hid (∀ j, j < n → (w.alloc (.cells (tab 8211 (mc m0)) 37)).cell? ((⟨bw, ow, none⟩ : Addr).add j) = some (.int .u64 (g j))) := Lib.hid (fun j hj => by rw [add_at]; exact keep1 HB.out (h j hj))
  have HN := Lib.hid hn
  clear h hn
  generalize hz : (tab 8211 (mc m0)) = ck at *
  have HZ := Lib.hid hz
  clear hz
  go_enter Tryd.func7, Tryd.ntmps7
  go_upto_region 4 with ((with_reducible refine Wt.wpList_buildM (P := Tryd.prog) (w := w) ?_ 37 ?_ (.agg ck) HBM.out ?_); (· exact rfl); (· exact rfl))
  generalize w.alloc (.cells ck 37) = y at *
  have s1 := slM w.heap.size
  generalize hq : w.heap.size = q at *
  go_upto_region 5 with (refine wpList_copy_tab rfl (.tmp 14) (.tmp 15) 23 23 rfl 33 undW sizeW q 0 8192 8192 ⟨bw, ow, none⟩ n c rfl rfl 37 8211 (mc m0) HT.out n (by have := HN.out; omega) (fun j => .int .u64 (g j)) (fun j hj => HC.out j hj) (by have := HN.out; omega) (fun _ => rfl) ?_)
  have H9 : IsMac (World.setRow y q (tab 8211 (splv (mc m0) 0 n fun j => .int .u64 (g j)))) q (loaded n g) := (IsTab.row (f := mc m0) HT.out).cong fun i hi => mc_loaded n g HN.out i hi
  have HB9 : Below w.heap.size w (World.setRow y q (tab 8211 (splv (mc m0) 0 n fun j => .int .u64 (g j)))) := below_setRow (by rw [hq]; exact HB.out) (by rw [hq]; exact Nat.le_refl _) _
  have H9 := Lib.hid (And.intro H9 HB9)
  clear HB9
  generalize World.setRow y q (tab 8211 (splv (mc m0) 0 n fun j => .int .u64 (g j))) = y9 at *
  have HQ := Lib.hid hq
  clear hq s1
  go_wp2_with (fail)
  exact bodyPost_ret (v := .tuple #[.pointer (some ⟨q, 0, none⟩), .nilIface]) (by simp [results, Tryd.results7, go_sem]) rfl ⟨by rw [HQ.out], by rw [HQ.out]; exact H9.out.1, H9.out.2⟩
theorem wrap_up (i : Nat) (h : (i : Int) + 1 ≤ 9223372036854775807) : wrap64 ((i : Int) + 1) = ((i + 1 : Nat) : Int) := by
  unfold wrap64; omega
theorem meas_dn {i k : Nat} (h : i + 1 ≤ k) : k - (i + 1) < k - i := by omega
theorem meas_loop {i k : Nat} (h : i + 1 ≤ k) (hw : wrap64 ((i : Int) + 1) = ((i + 1 : Nat) : Int)) : k - (intOf (.int .i64 (wrap64 ((i : Int) + 1)))).toNat < k - (intOf (.int .i64 (i : Int))).toNat := by
  rw [hw]
  show k - (i + 1) < k - i
  exact meas_dn h
/-- Run, over a row of machines. -/
theorem run_walk (b s n k : Nat) (f : Nat → Mac) (I : Nat → World → Prop) (hI : ∀ i y, I i y → IsMac y b (f i))
    (hstep : ∀ i y, i < k → I i y → Calls Tryd.prog 36 #[.pointer (some ⟨b, 0, none⟩), .pointer (some ⟨s, 0, none⟩)] y fun e w' => e = .returned (.tuple #[]) ∧ I (i + 1) w')
    (hk : k ≤ n) (hh : ∀ i, i < k → (f i).halted = false) (hend : k = n ∨ (f k).halted = true) (hn : (n : Int) < 9223372036854775807) (w : World) (h0 : I 0 w) :
    Calls Tryd.prog 11 #[.pointer (some ⟨b, 0, none⟩), .pointer (some ⟨s, 0, none⟩), .int .i64 n] w fun e w' => e = .returned (.tuple #[.int .i64 k, .nilIface]) ∧ I k w' := by
  have t1 : decide ((n : Int) < 0) = false := by simp
  have HI := Lib.hid hI
  have HS := Lib.hid hstep
  have HH := Lib.hid hh
  have HE := Lib.hid hend
  have HK := Lib.hid (And.intro hk hn)
  have H0 := Lib.hid h0
  clear hI hstep hh hend hk h0 hn
  go_enter Tryd.func11, Tryd.ntmps11
  go_wp2_with (fail)
  clear t1
  go_loopw [8] (fun t y => ∃ i : Nat, t = .int .i64 i ∧ Hid (i ≤ k ∧ I i y)) (fun t _ => k - (intOf t).toNat)
  case atStart => exact ⟨0, rfl, Lib.hid ⟨Nat.zero_le _, H0.out⟩⟩
  case round =>
    obtain ⟨i, rfl, hp⟩ := hrel
    have HP := Lib.hid hp.out
    clear hp H0
    have kh := (HI.out i wr HP.out.2).halted
    by_cases hlt : i < k
    · have t1 : decide (i < n) = true := by have := HK.out.1; simp; omega
      have e1 : (f i).halted = false := HH.out i hlt
      rw [e1] at kh
      have HC := Lib.hid (HS.out i wr hlt HP.out.2)
      have HW : Hid (wrap64 ((i : Int) + 1) = ((i + 1 : Nat) : Int) ∧ i + 1 ≤ k) := Lib.hid ⟨wrap_up i (by have := HK.out; omega), hlt⟩
      clear hlt e1
      go_upto_region 8 with (go_at_call 36; (with_reducible refine HC.out.mono ?_); rintro e y1 ⟨he, hi⟩; obtain rfl : e = _ := he; have HI1 := Lib.hid hi; clear hi)
      have hw1 := HW.out.1
      go_wp2_with (fail)
      go_roundw
      case rel => exact ⟨i + 1, by go_num, Lib.hid ⟨HW.out.2, HI1.out⟩⟩
      case measure =>
        exact meas_loop HW.out.2 HW.out.1
    · obtain rfl : i = k := by have := HP.out.1; omega
      by_cases hkn : i < n
      · have t1 : decide (i < n) = true := by simp; omega
        have e1 : (f i).halted = true := HE.out.resolve_left (by omega)
        rw [e1] at kh
        clear hlt hkn
        go_wp2_with (fail)
        exact bodyPost_ret (v := .tuple #[.int .i64 i, .nilIface]) (by simp [results, Tryd.results11, go_sem]) rfl ⟨rfl, HP.out.2⟩
      · have t1 : decide (i < n) = false := by simp; omega
        clear hlt hkn
        go_wp2_with (fail)
        exact bodyPost_ret (v := .tuple #[.int .i64 i, .nilIface]) (by simp [results, Tryd.results11, go_sem]) rfl ⟨rfl, HP.out.2⟩
end Vm
end Go.Proofs.YtjfpbponjhpdhaaDoor
namespace Go.Proofs.YtjfpbponjhpdhaaDoor
open Go.RowKit
set_option linter.unusedVariables false
set_option linter.unusedSimpArgs false
namespace Vm
open Kc
def ws : List Nat := [1878001044613496837, 1882504648535834621, 85885052268838912, 844424930131968]
def wv' (x : Nat) : Value := .int .u64 (x : Int)
theorem infoW : ∃ i, Tryd.prog.info? 33 = some i ∧ i.zero = some (.int .u64 0) ∧ i.size = 1 ∧ i.bytes = 8 := by
  refine ⟨(Tryd.prog.info? 33).get (by kernel_rfl), by kernel_rfl, by kernel_rfl, by kernel_rfl, by kernel_rfl⟩
/-- The four machines' beginning, and their steps. -/
def wf (j : Nat) : Nat := ws.getD j 0
theorem ok_loaded (n : Nat) (g : Nat → Nat) (h : ∀ i, g i < 18446744073709551616) : OkM (loaded n g) := by
  refine ⟨fun i => ?_, fun i => by unfold loaded; simp, by unfold loaded; simp, by unfold loaded; simp⟩
  unfold loaded
  simp only
  split
  · exact h i
  · decide
theorem ok_setR {M : Mac} (h : OkM M) (d v : Nat) (hv : v < 18446744073709551616) : OkM (setR M d v) := by
  refine ⟨h.mem, fun i => ?_, h.pc, h.exit⟩
  unfold setR
  simp only
  split
  · exact hv
  · exact h.reg i
theorem ok_pc {M : Mac} (h : OkM M) (p : Nat) (hp : p < 18446744073709551616) : OkM { M with pc := p } := ⟨h.mem, h.reg, hp, h.exit⟩
/-- A row of words of the call's own, as a slice. -/
theorem ws_of {w : World} {q n : Nat} {V : Value} (l : List Nat) (hn : n = l.length) (h : w.ownsRow q 33 1 V n (l.map wv')) (h0 : 0 < n) :
    ∃ g cap, V = .slice (some ⟨g, 0, none⟩) n cap ∧ IsWs w g 0 n fun j => l.getD j 0 := by
  subst hn
  obtain ⟨_, h1⟩ := h
  rcases h1 with ⟨rfl, e⟩ | ⟨g, cap, cur, rfl, hg, hc, hnc, hm, hs, ht⟩
  · omega
  · refine ⟨g, cap, rfl, fun j hj => ?_⟩
    have e1 : (cur.toList.take (l.length * 1))[j]? = (l.map wv')[j]? := by rw [ht]
    rw [List.getElem?_take, if_pos (by omega)] at e1
    rw [Nat.zero_add, cell_of_row w g j _ _ _ hc]
    have e2 : cur[j]? = (l.map wv')[j]? := by simpa using e1
    rw [e2]
    simp [hj, wv']
end Vm
end Go.Proofs.YtjfpbponjhpdhaaDoor
namespace Go.Proofs.YtjfpbponjhpdhaaDoor
open Go.RowKit
set_option linter.unusedVariables false
set_option linter.unusedSimpArgs false
namespace Vm
open Kc
/-- An instruction as the statements hand it on. -/
structure Ins where
  op : Int
  d : Int
  a : Int
  b : Int
  c : Int
  n : Int
  raw : Nat
def insV (x : Ins) : List Value := [.int .i64 x.op, .int .i64 x.d, .int .i64 x.a, .int .i64 x.b, .int .i64 x.c, .int .i64 x.n, .int .u64 x.raw]
def IsIns (w : World) (b o n : Nat) (f : Nat → Ins) : Prop := ∀ j i v, j < n → (insV (f j))[i]? = some v → w.cell? ⟨b, o + j * 7 + i, none⟩ = some v
theorem IsIns.below {w w' : World} {b o n : Nat} {f : Nat → Ins} (h : IsIns w b o n f) (hb : Below w.heap.size w w') : IsIns w' b o n f := fun j i v h1 h2 => keep1 hb (h j i v h1 h2)
def m16 (z : Int) : Int := wrap64 ((IntKind.u64.wrap z).tmod 16)
def wordOf (x : Ins) : Nat := if codeOk x.op (m16 x.d) (m16 x.a) (m16 x.b) (m16 x.c) x.n then (codeW x.op (m16 x.d) (m16 x.a) (m16 x.b) (m16 x.c) x.n).toNat else x.raw
theorem codeW_nn {op d a b c n : Int} (h : codeOk op d a b c n) : ((codeW op d a b c n).toNat : Int) = codeW op d a b c n := by
  unfold codeOk gd at h
  unfold codeW
  omega
theorem undIns : Tryd.prog.underlying 89 = some (.struct (Tryd.prog.fieldsOf 89)) := by kernel_rfl
theorem infIns : (Tryd.prog.info? 89).map (·.size) = some 7 := by kernel_rfl
theorem loadIns {w : World} {b o n : Nat} {f : Nat → Ins} (h : IsIns w b o n f) {j : Nat} (hj : j < n) : (Instr.loadAt 89 (.pointer (some ⟨b, o + j * 7, none⟩))).run Tryd.prog w = .ok (.agg (insV (f j)).toArray) w := by
  refine run_loadAt_mid w b (o + j * 7) _ (insV (f j)) _ (fun i v hv => h j i v hj hv) undIns rfl (by rw [infIns]; rfl)
/-- What the loop keeps: the words so far. -/
structure Wl (W : World) (b o n : Nat) (f : Nat → Ins) (j : Nat) (V : Value) (y : World) : Prop where
  ins : IsIns y b o n f
  row : y.ownsRow W.heap.size 33 1 V j ((List.range j).map fun i => wv' (wordOf (f i)))
  below : Below W.heap.size W y
  lt : b < W.heap.size
theorem Wl.below' {W y y' : World} {b o n j : Nat} {f : Nat → Ins} {V : Value} (h : Wl W b o n f j V y) (hb : Below y.heap.size y y') : Wl W b o n f j V y' :=
  ⟨h.ins.below hb, (Kept.ofBelow (S := fun _ => False) hb).row h.row (fun _ _ h => h), bl h.below hb, h.lt⟩
theorem Wl.grown {W y y' : World} {b o n j : Nat} {f : Nat → Ins} {V V' : Value} (h : Wl W b o n f j V y) (x : Int) (hx : x = (wordOf (f j) : Int))
    (hr : y'.ownsRow W.heap.size 33 1 V' (j + 1) ((List.range j).map (fun i => wv' (wordOf (f i))) ++ [.int .u64 x])) (hg : y.grownBy y' V.ownBlock) : Wl W b o n f (j + 1) V' y' := by
  have hne : ∀ k, V.ownBlock = some k → W.heap.size ≤ k := fun k hk => owns_base h.row hk
  have hb := below_grown (Nat.le_refl _) h.below hg hne
  refine ⟨fun k i v h1 h2 => ?_, ?_, hb, h.lt⟩
  · have := h.ins k i v h1 h2
    rw [World.cell?_of_block (w := y) (hg.block b (inHeap this) (fun e => by have := hne b e.symm; have := h.lt; omega))]
    exact this
  · rw [List.range_succ, List.map_append, List.map_singleton]
    rw [hx] at hr
    exact hr
end Vm
end Go.Proofs.YtjfpbponjhpdhaaDoor
namespace Go.Proofs.YtjfpbponjhpdhaaDoor
open Go.RowKit
set_option linter.unusedVariables false
set_option linter.unusedSimpArgs false
namespace Vm
open Kc
theorem stop_wrong (w : World) (b : Nat) (M : Mac) (h : IsMac w b M) :
    Calls Tryd.prog 57 #[.pointer (some ⟨b, 0, none⟩), .int .u64 18446744073709551614] w fun e w' => e = .returned (.tuple #[]) ∧ IsMac w' b (stopM M 18446744073709551614) ∧ Kept (fun k => k = b) w w' := stop_walk w b 18446744073709551614 M h
/-- A jump, plain. -/
def jumpM (M : Mac) (op d a to : Nat) : Mac :=
  if (op = 30 ∧ M.reg a ≠ 0) ∨ (op = 31 ∧ M.reg a = 0) then { M with pc := M.pc + 1 }
  else if 8192 ≤ (if op = 33 then M.reg a else to) then stopM M 18446744073709551614
  else { (if op = 32 then setR M d (M.pc + 1) else M) with pc := (if op = 33 then M.reg a else to) }
set_option maxHeartbeats 1000000 in
set_option maxRecDepth 100000 in
theorem jump29_far (w : World) (b d a to : Nat) (M : Mac) (h : IsMac w b M) (hd : d < 16) (ha : a < 16) (hpc : M.pc < 8192) (hto : 8192 ≤ to) :
    Calls Tryd.prog 61 #[.pointer (some ⟨b, 0, none⟩), .int .i64 29, .int .i64 d, .int .i64 a, .int .u64 to] w fun e w' => e = .returned (.tuple #[]) ∧ IsMac w' b (stopM M 18446744073709551614) ∧ Kept (fun k => k = b) w w' := by
  have hai : (a : Int) < 16 := by omega
  have hdi : (d : Int) < 16 := by omega
  have ka := h.reg ha
  have t1 : decide (8192 ≤ (to : Int)) = true := by simp; omega
  clear hto ha hd
  have HC := Lib.hid (stop_wrong w b M h)
  clear h hpc
  go_enter Tryd.func61, Tryd.ntmps61
  go_wp2_with (go_at_call 57; (with_reducible refine HC.out.mono ?_); rintro e y2 ⟨he, hm, hk⟩; obtain rfl : e = _ := he; have HM2 := Lib.hid hm; have HK2 := Lib.hid hk; clear hm hk)
  exact bodyPost_ret (v := .tuple #[]) (by simp [results, Tryd.results61, go_sem]) rfl ⟨rfl, HM2.out, HK2.out⟩
set_option maxHeartbeats 1000000 in
set_option maxRecDepth 100000 in
theorem jump29 (w : World) (b d a to : Nat) (M : Mac) (h : IsMac w b M) (hd : d < 16) (ha : a < 16) (hpc : M.pc < 8192) (hto : to < 8192) :
    Calls Tryd.prog 61 #[.pointer (some ⟨b, 0, none⟩), .int .i64 29, .int .i64 d, .int .i64 a, .int .u64 to] w fun e w' => e = .returned (.tuple #[]) ∧ IsMac w' b ({ M with pc := to }) ∧ Kept (fun k => k = b) w w' := by
  have hai : (a : Int) < 16 := by omega
  have hdi : (d : Int) < 16 := by omega
  have ka := h.reg ha
  have t1 : decide (8192 ≤ (to : Int)) = false := by simp; omega
  clear hto ha hd
  have kp := h.pc
  have fp := h.fz 8208
  have H9 := Lib.hid (h.setPc (to))
  have K9 := Lib.hid (kept_set (S := fun k => k = b) (Kept.refl _ w) b 8208 rfl (.int .u64 ((to : Nat) : Int)))
  clear h hpc
  go_enter Tryd.func61, Tryd.ntmps61
  go_wp2_with (fail)
  exact bodyPost_end (v := .tuple #[]) (by simp [results, Tryd.results61, go_sem]) rfl ⟨rfl, H9.out, K9.out⟩
set_option maxHeartbeats 1000000 in
set_option maxRecDepth 100000 in
theorem jump30_no (w : World) (b d a to : Nat) (M : Mac) (h : IsMac w b M) (hd : d < 16) (ha : a < 16) (hpc : M.pc < 8192) (hv : M.reg a ≠ 0) :
    Calls Tryd.prog 61 #[.pointer (some ⟨b, 0, none⟩), .int .i64 30, .int .i64 d, .int .i64 a, .int .u64 to] w fun e w' => e = .returned (.tuple #[]) ∧ IsMac w' b ({ M with pc := M.pc + 1 }) ∧ Kept (fun k => k = b) w w' := by
  have hai : (a : Int) < 16 := by omega
  have hdi : (d : Int) < 16 := by omega
  have ka := h.reg ha
  have t2 : ((M.reg a : Int) == 0) = false := by simp; omega
  clear hv
  clear ha hd
  have kp := h.pc
  have fp := h.fz 8208
  have HW : Hid (IntKind.u64.wrap ((M.pc : Int) + 1) = ((M.pc + 1 : Nat) : Int)) := Lib.hid (wrap_pc hpc)
  have H9 : Hid (IsMac (w.setCell ⟨b, 8208, none⟩ (.int .u64 (IntKind.u64.wrap ((M.pc : Int) + 1)))) b { M with pc := M.pc + 1 }) := Lib.hid (by rw [HW.out]; exact h.setPc (M.pc + 1))
  have K9 := Lib.hid (kept_set (S := fun k => k = b) (Kept.refl _ w) b 8208 rfl (.int .u64 (IntKind.u64.wrap ((M.pc : Int) + 1))))
  clear h hpc
  generalize hp : (M.pc : Int) = PC at *
  go_enter Tryd.func61, Tryd.ntmps61
  go_wp2_with (fail)
  subst hp
  exact bodyPost_ret (v := .tuple #[]) (by simp [results, Tryd.results61, go_sem]) rfl ⟨rfl, H9.out, K9.out⟩
set_option maxHeartbeats 1000000 in
set_option maxRecDepth 100000 in
theorem jump30_far (w : World) (b d a to : Nat) (M : Mac) (h : IsMac w b M) (hd : d < 16) (ha : a < 16) (hpc : M.pc < 8192) (hv : M.reg a = 0) (hto : 8192 ≤ to) :
    Calls Tryd.prog 61 #[.pointer (some ⟨b, 0, none⟩), .int .i64 30, .int .i64 d, .int .i64 a, .int .u64 to] w fun e w' => e = .returned (.tuple #[]) ∧ IsMac w' b (stopM M 18446744073709551614) ∧ Kept (fun k => k = b) w w' := by
  have hai : (a : Int) < 16 := by omega
  have hdi : (d : Int) < 16 := by omega
  have ka := h.reg ha
  have t2 : ((M.reg a : Int) == 0) = true := by simp; omega
  clear hv
  have t1 : decide (8192 ≤ (to : Int)) = true := by simp; omega
  clear hto ha hd
  have HC := Lib.hid (stop_wrong w b M h)
  clear h hpc
  go_enter Tryd.func61, Tryd.ntmps61
  go_wp2_with (go_at_call 57; (with_reducible refine HC.out.mono ?_); rintro e y2 ⟨he, hm, hk⟩; obtain rfl : e = _ := he; have HM2 := Lib.hid hm; have HK2 := Lib.hid hk; clear hm hk)
  exact bodyPost_ret (v := .tuple #[]) (by simp [results, Tryd.results61, go_sem]) rfl ⟨rfl, HM2.out, HK2.out⟩
set_option maxHeartbeats 1000000 in
set_option maxRecDepth 100000 in
theorem jump30 (w : World) (b d a to : Nat) (M : Mac) (h : IsMac w b M) (hd : d < 16) (ha : a < 16) (hpc : M.pc < 8192) (hv : M.reg a = 0) (hto : to < 8192) :
    Calls Tryd.prog 61 #[.pointer (some ⟨b, 0, none⟩), .int .i64 30, .int .i64 d, .int .i64 a, .int .u64 to] w fun e w' => e = .returned (.tuple #[]) ∧ IsMac w' b ({ M with pc := to }) ∧ Kept (fun k => k = b) w w' := by
  have hai : (a : Int) < 16 := by omega
  have hdi : (d : Int) < 16 := by omega
  have ka := h.reg ha
  have t2 : ((M.reg a : Int) == 0) = true := by simp; omega
  clear hv
  have t1 : decide (8192 ≤ (to : Int)) = false := by simp; omega
  clear hto ha hd
  have kp := h.pc
  have fp := h.fz 8208
  have H9 := Lib.hid (h.setPc (to))
  have K9 := Lib.hid (kept_set (S := fun k => k = b) (Kept.refl _ w) b 8208 rfl (.int .u64 ((to : Nat) : Int)))
  clear h hpc
  go_enter Tryd.func61, Tryd.ntmps61
  go_wp2_with (fail)
  exact bodyPost_end (v := .tuple #[]) (by simp [results, Tryd.results61, go_sem]) rfl ⟨rfl, H9.out, K9.out⟩
set_option maxHeartbeats 1000000 in
set_option maxRecDepth 100000 in
theorem jump31_no (w : World) (b d a to : Nat) (M : Mac) (h : IsMac w b M) (hd : d < 16) (ha : a < 16) (hpc : M.pc < 8192) (hv : M.reg a = 0) :
    Calls Tryd.prog 61 #[.pointer (some ⟨b, 0, none⟩), .int .i64 31, .int .i64 d, .int .i64 a, .int .u64 to] w fun e w' => e = .returned (.tuple #[]) ∧ IsMac w' b ({ M with pc := M.pc + 1 }) ∧ Kept (fun k => k = b) w w' := by
  have hai : (a : Int) < 16 := by omega
  have hdi : (d : Int) < 16 := by omega
  have ka := h.reg ha
  have t2 : ((M.reg a : Int) == 0) = true := by simp; omega
  clear hv
  clear ha hd
  have kp := h.pc
  have fp := h.fz 8208
  have HW : Hid (IntKind.u64.wrap ((M.pc : Int) + 1) = ((M.pc + 1 : Nat) : Int)) := Lib.hid (wrap_pc hpc)
  have H9 : Hid (IsMac (w.setCell ⟨b, 8208, none⟩ (.int .u64 (IntKind.u64.wrap ((M.pc : Int) + 1)))) b { M with pc := M.pc + 1 }) := Lib.hid (by rw [HW.out]; exact h.setPc (M.pc + 1))
  have K9 := Lib.hid (kept_set (S := fun k => k = b) (Kept.refl _ w) b 8208 rfl (.int .u64 (IntKind.u64.wrap ((M.pc : Int) + 1))))
  clear h hpc
  generalize hp : (M.pc : Int) = PC at *
  go_enter Tryd.func61, Tryd.ntmps61
  go_wp2_with (fail)
  subst hp
  exact bodyPost_ret (v := .tuple #[]) (by simp [results, Tryd.results61, go_sem]) rfl ⟨rfl, H9.out, K9.out⟩
set_option maxHeartbeats 1000000 in
set_option maxRecDepth 100000 in
theorem jump31_far (w : World) (b d a to : Nat) (M : Mac) (h : IsMac w b M) (hd : d < 16) (ha : a < 16) (hpc : M.pc < 8192) (hv : M.reg a ≠ 0) (hto : 8192 ≤ to) :
    Calls Tryd.prog 61 #[.pointer (some ⟨b, 0, none⟩), .int .i64 31, .int .i64 d, .int .i64 a, .int .u64 to] w fun e w' => e = .returned (.tuple #[]) ∧ IsMac w' b (stopM M 18446744073709551614) ∧ Kept (fun k => k = b) w w' := by
  have hai : (a : Int) < 16 := by omega
  have hdi : (d : Int) < 16 := by omega
  have ka := h.reg ha
  have t2 : ((M.reg a : Int) == 0) = false := by simp; omega
  clear hv
  have t1 : decide (8192 ≤ (to : Int)) = true := by simp; omega
  clear hto ha hd
  have HC := Lib.hid (stop_wrong w b M h)
  clear h hpc
  go_enter Tryd.func61, Tryd.ntmps61
  go_wp2_with (go_at_call 57; (with_reducible refine HC.out.mono ?_); rintro e y2 ⟨he, hm, hk⟩; obtain rfl : e = _ := he; have HM2 := Lib.hid hm; have HK2 := Lib.hid hk; clear hm hk)
  exact bodyPost_ret (v := .tuple #[]) (by simp [results, Tryd.results61, go_sem]) rfl ⟨rfl, HM2.out, HK2.out⟩
set_option maxHeartbeats 1000000 in
set_option maxRecDepth 100000 in
theorem jump31 (w : World) (b d a to : Nat) (M : Mac) (h : IsMac w b M) (hd : d < 16) (ha : a < 16) (hpc : M.pc < 8192) (hv : M.reg a ≠ 0) (hto : to < 8192) :
    Calls Tryd.prog 61 #[.pointer (some ⟨b, 0, none⟩), .int .i64 31, .int .i64 d, .int .i64 a, .int .u64 to] w fun e w' => e = .returned (.tuple #[]) ∧ IsMac w' b ({ M with pc := to }) ∧ Kept (fun k => k = b) w w' := by
  have hai : (a : Int) < 16 := by omega
  have hdi : (d : Int) < 16 := by omega
  have ka := h.reg ha
  have t2 : ((M.reg a : Int) == 0) = false := by simp; omega
  clear hv
  have t1 : decide (8192 ≤ (to : Int)) = false := by simp; omega
  clear hto ha hd
  have kp := h.pc
  have fp := h.fz 8208
  have H9 := Lib.hid (h.setPc (to))
  have K9 := Lib.hid (kept_set (S := fun k => k = b) (Kept.refl _ w) b 8208 rfl (.int .u64 ((to : Nat) : Int)))
  clear h hpc
  go_enter Tryd.func61, Tryd.ntmps61
  go_wp2_with (fail)
  exact bodyPost_end (v := .tuple #[]) (by simp [results, Tryd.results61, go_sem]) rfl ⟨rfl, H9.out, K9.out⟩
set_option maxHeartbeats 1000000 in
set_option maxRecDepth 100000 in
theorem jump33_far (w : World) (b d a to : Nat) (M : Mac) (h : IsMac w b M) (hd : d < 16) (ha : a < 16) (hpc : M.pc < 8192) (hto : 8192 ≤ M.reg a) :
    Calls Tryd.prog 61 #[.pointer (some ⟨b, 0, none⟩), .int .i64 33, .int .i64 d, .int .i64 a, .int .u64 to] w fun e w' => e = .returned (.tuple #[]) ∧ IsMac w' b (stopM M 18446744073709551614) ∧ Kept (fun k => k = b) w w' := by
  have hai : (a : Int) < 16 := by omega
  have hdi : (d : Int) < 16 := by omega
  have ka := h.reg ha
  have t1 : decide (8192 ≤ (M.reg a : Int)) = true := by simp; omega
  clear hto ha hd
  have HC := Lib.hid (stop_wrong w b M h)
  clear h hpc
  go_enter Tryd.func61, Tryd.ntmps61
  go_wp2_with (go_at_call 57; (with_reducible refine HC.out.mono ?_); rintro e y2 ⟨he, hm, hk⟩; obtain rfl : e = _ := he; have HM2 := Lib.hid hm; have HK2 := Lib.hid hk; clear hm hk)
  exact bodyPost_ret (v := .tuple #[]) (by simp [results, Tryd.results61, go_sem]) rfl ⟨rfl, HM2.out, HK2.out⟩
set_option maxHeartbeats 1000000 in
set_option maxRecDepth 100000 in
theorem jump33 (w : World) (b d a to : Nat) (M : Mac) (h : IsMac w b M) (hd : d < 16) (ha : a < 16) (hpc : M.pc < 8192) (hto : M.reg a < 8192) :
    Calls Tryd.prog 61 #[.pointer (some ⟨b, 0, none⟩), .int .i64 33, .int .i64 d, .int .i64 a, .int .u64 to] w fun e w' => e = .returned (.tuple #[]) ∧ IsMac w' b ({ M with pc := M.reg a }) ∧ Kept (fun k => k = b) w w' := by
  have hai : (a : Int) < 16 := by omega
  have hdi : (d : Int) < 16 := by omega
  have ka := h.reg ha
  have t1 : decide (8192 ≤ (M.reg a : Int)) = false := by simp; omega
  clear hto ha hd
  have kp := h.pc
  have fp := h.fz 8208
  have H9 := Lib.hid (h.setPc (M.reg a))
  have K9 := Lib.hid (kept_set (S := fun k => k = b) (Kept.refl _ w) b 8208 rfl (.int .u64 ((M.reg a : Nat) : Int)))
  clear h hpc
  go_enter Tryd.func61, Tryd.ntmps61
  go_wp2_with (fail)
  exact bodyPost_end (v := .tuple #[]) (by simp [results, Tryd.results61, go_sem]) rfl ⟨rfl, H9.out, K9.out⟩
set_option maxHeartbeats 1000000 in
set_option maxRecDepth 100000 in
theorem jump32_far (w : World) (b d a to : Nat) (M : Mac) (h : IsMac w b M) (hd : d < 16) (ha : a < 16) (hpc : M.pc < 8192) (hto : 8192 ≤ to) :
    Calls Tryd.prog 61 #[.pointer (some ⟨b, 0, none⟩), .int .i64 32, .int .i64 d, .int .i64 a, .int .u64 to] w fun e w' => e = .returned (.tuple #[]) ∧ IsMac w' b (stopM M 18446744073709551614) ∧ Kept (fun k => k = b) w w' := by
  have hai : (a : Int) < 16 := by omega
  have hdi : (d : Int) < 16 := by omega
  have ka := h.reg ha
  have t1 : decide (8192 ≤ (to : Int)) = true := by simp; omega
  clear hto ha hd
  have HC := Lib.hid (stop_wrong w b M h)
  clear h hpc
  go_enter Tryd.func61, Tryd.ntmps61
  go_wp2_with (go_at_call 57; (with_reducible refine HC.out.mono ?_); rintro e y2 ⟨he, hm, hk⟩; obtain rfl : e = _ := he; have HM2 := Lib.hid hm; have HK2 := Lib.hid hk; clear hm hk)
  exact bodyPost_ret (v := .tuple #[]) (by simp [results, Tryd.results61, go_sem]) rfl ⟨rfl, HM2.out, HK2.out⟩
set_option maxHeartbeats 1000000 in
set_option maxRecDepth 100000 in
theorem jump32 (w : World) (b d a to : Nat) (M : Mac) (h : IsMac w b M) (hd : d < 16) (ha : a < 16) (hpc : M.pc < 8192) (hto : to < 8192) :
    Calls Tryd.prog 61 #[.pointer (some ⟨b, 0, none⟩), .int .i64 32, .int .i64 d, .int .i64 a, .int .u64 to] w fun e w' => e = .returned (.tuple #[]) ∧ IsMac w' b ({ setR M d (M.pc + 1) with pc := to }) ∧ Kept (fun k => k = b) w w' := by
  have hai : (a : Int) < 16 := by omega
  have hdi : (d : Int) < 16 := by omega
  have ka := h.reg ha
  have t1 : decide (8192 ≤ (to : Int)) = false := by simp; omega
  have HDI := Lib.hid hd
  clear hto ha hd hdi
  have HH := Lib.hid h
  have HPC := Lib.hid hpc
  have HW : Hid (IntKind.u64.wrap ((M.pc : Int) + 1) = ((M.pc + 1 : Nat) : Int)) := Lib.hid (wrap_pc hpc)
  clear h hpc
  go_enter Tryd.func61, Tryd.ntmps61
  go_upto_region 11 with (fail)
  have HZ := Lib.hid (HH.out.kept (Wt.kept_drew w) id)
  have HS : Hid (IsMac (w.drew.setCell ⟨b, 8192 + d, none⟩ (.int .u64 (IntKind.u64.wrap ((M.pc : Int) + 1)))) b (setR M d (M.pc + 1))) := Lib.hid (by rw [HW.out]; exact HZ.out.setReg HDI.out _)
  have HK : Hid (Kept (fun k => k = b) w (w.drew.setCell ⟨b, 8192 + d, none⟩ (.int .u64 (IntKind.u64.wrap ((M.pc : Int) + 1))))) := Lib.hid (kept_set (S := fun k => k = b) (Kept.drew (Kept.refl _ w)) b _ rfl _)
  refine wp_region_oz (fun z : World => w.drew = z) 10 (.take 0 (.take 1 (.take 2 (.take 3 (.take 4 (.take 5 (.take 6 (.free 7 (.free 8 (.free 9 (.one 10 .done))))))))))) (by kernel_rfl) (by kernel_rfl) rfl ?_
  generalize w.drew = y0 at *
  refine oz_tk (some 42) (.pointer (some ⟨b, 0, none⟩)) rfl rfl (by go_simp) (fun _ _ => by simp [execOp, go_sem]) ?_
  simp only [Act.put, pS]
  refine oz_tk (some 43) (.int .i64 d) rfl rfl (by go_simp) (fun _ _ => by simp [execOp, go_sem]) ?_
  simp only [Act.put, pS]
  refine oz_tk (some 44) (.pointer (some ⟨b, 0, none⟩)) rfl rfl (by go_simp) (fun _ _ => by simp [execOp, go_sem]) ?_
  simp only [Act.put, pS]
  refine oz_tk (some 45) (.pointer (some ⟨b, 0, none⟩)) rfl rfl (by go_simp) (fun _ _ => by simp [execOp, go_sem]) ?_
  simp only [Act.put, pS]
  refine oz_tk (some 46) (.pointer (some ⟨b, 8208, none⟩)) rfl rfl (by go_simp) (fun _ _ => by simp [execOp, go_sem]) ?_
  simp only [Act.put, pS]
  refine oz_ld (some 47) 33 (.tmp 46) (.pointer (some ⟨b, 8208, none⟩)) (.int .u64 (M.pc : Int)) rfl rfl (by go_simp) rfl rfl (fun y hy => by have h := hy ▸ HZ.out.pc; simp [Instr.loadAt, go_sem, h, Tryd.underlying33]) ?_
  simp only [Act.put, pS]
  refine oz_tk (some 48) (.int .u64 (IntKind.u64.wrap ((M.pc : Int) + 1))) rfl rfl (by go_simp) (fun _ _ => by simp [execOp, go_sem]) ?_
  simp only [Act.put, pS]
  refine oz_fr (some 49) (.pointer (some ⟨b, 0, none⟩)) rfl rfl (by go_simp) (fun _ => by simp [execOp, go_sem]) ?_
  simp only [Act.put, pS]
  refine oz_fr (some 50) (.pointer (some ⟨b, 8192, none⟩)) rfl rfl (by go_simp) (fun _ => by simp [execOp, go_sem]) ?_
  simp only [Act.put, pS]
  refine oz_fr (some 51) (.pointer (some ⟨b, (8192 + d), none⟩)) rfl rfl (by go_simp) (fun _ => by have h := ix16 b d HDI.out; simp [execOp, go_sem, h, Result.andThen]) ?_
  simp only [Act.put, pS]
  have kd := HZ.out.reg HDI.out
  have fd := HZ.out.fz (8192 + d)
  refine oz_z rfl (by go_simp) fun K hK => ?_
  go_simp
  refine hK _ _ ?_
  clear hK K kd fd
  refine oz_done (NoPanic.normal ?_)
  generalize y0.setCell ⟨b, 8192 + d, none⟩ (.int .u64 (IntKind.u64.wrap ((M.pc : Int) + 1))) = y1 at *
  have kp := HS.out.pc
  have fp := HS.out.fz 8208
  have H9 := Lib.hid (HS.out.setPc to)
  have K9 := Lib.hid (kept_set (S := fun k => k = b) HK.out b 8208 rfl (.int .u64 (to : Int)))
  go_wp2_with (fail)
  exact bodyPost_end (v := .tuple #[]) (by simp [results, Tryd.results61, go_sem]) rfl ⟨rfl, H9.out, K9.out⟩
theorem jump_walk (w : World) (b op d a to : Nat) (M : Mac) (h : IsMac w b M) (hop : 29 ≤ op ∧ op ≤ 33) (hd : d < 16) (ha : a < 16) (hpc : M.pc < 8192) :
    Calls Tryd.prog 61 #[.pointer (some ⟨b, 0, none⟩), .int .i64 op, .int .i64 d, .int .i64 a, .int .u64 to] w fun e w' => e = .returned (.tuple #[]) ∧ IsMac w' b (jumpM M op d a to) ∧ Kept (fun k => k = b) w w' := by
  have ho : op = 29 ∨ op = 30 ∨ op = 31 ∨ op = 32 ∨ op = 33 := by omega
  clear hop
  rcases ho with rfl | rfl | rfl | rfl | rfl
  · by_cases hto : to < 8192
    · have e : jumpM M 29 d a to = { M with pc := to } := by unfold jumpM; rw [if_neg (by omega), if_neg (by simp; omega)]; rfl
      rw [e]; exact jump29 w b d a to M h hd ha hpc hto
    · have e : jumpM M 29 d a to = stopM M 18446744073709551614 := by unfold jumpM; rw [if_neg (by omega), if_pos (by simp; omega)]
      rw [e]; exact jump29_far w b d a to M h hd ha hpc (by omega)
  · by_cases hv : M.reg a = 0
    · by_cases hto : to < 8192
      · have e : jumpM M 30 d a to = { M with pc := to } := by unfold jumpM; rw [if_neg (by omega), if_neg (by simp; omega)]; rfl
        rw [e]; exact jump30 w b d a to M h hd ha hpc hv hto
      · have e : jumpM M 30 d a to = stopM M 18446744073709551614 := by unfold jumpM; rw [if_neg (by omega), if_pos (by simp; omega)]
        rw [e]; exact jump30_far w b d a to M h hd ha hpc hv (by omega)
    · have e : jumpM M 30 d a to = { M with pc := M.pc + 1 } := by unfold jumpM; rw [if_pos (.inl ⟨rfl, hv⟩)]
      rw [e]; exact jump30_no w b d a to M h hd ha hpc hv
  · by_cases hv : M.reg a = 0
    · have e : jumpM M 31 d a to = { M with pc := M.pc + 1 } := by unfold jumpM; rw [if_pos (.inr ⟨rfl, hv⟩)]
      rw [e]; exact jump31_no w b d a to M h hd ha hpc hv
    · by_cases hto : to < 8192
      · have e : jumpM M 31 d a to = { M with pc := to } := by unfold jumpM; rw [if_neg (by omega), if_neg (by simp; omega)]; rfl
        rw [e]; exact jump31 w b d a to M h hd ha hpc hv hto
      · have e : jumpM M 31 d a to = stopM M 18446744073709551614 := by unfold jumpM; rw [if_neg (by omega), if_pos (by simp; omega)]
        rw [e]; exact jump31_far w b d a to M h hd ha hpc hv (by omega)
  · by_cases hto : to < 8192
    · have e : jumpM M 32 d a to = { setR M d (M.pc + 1) with pc := to } := by unfold jumpM; rw [if_neg (by omega), if_neg (by simp; omega)]; rfl
      rw [e]; exact jump32 w b d a to M h hd ha hpc hto
    · have e : jumpM M 32 d a to = stopM M 18446744073709551614 := by unfold jumpM; rw [if_neg (by omega), if_pos (by simp; omega)]
      rw [e]; exact jump32_far w b d a to M h hd ha hpc (by omega)
  · by_cases hto : M.reg a < 8192
    · have e : jumpM M 33 d a to = { M with pc := M.reg a } := by unfold jumpM; rw [if_neg (by omega), if_neg (by simp; omega)]; rfl
      rw [e]; exact jump33 w b d a to M h hd ha hpc hto
    · have e : jumpM M 33 d a to = stopM M 18446744073709551614 := by unfold jumpM; rw [if_neg (by omega), if_pos (by simp; omega)]
      rw [e]; exact jump33_far w b d a to M h hd ha hpc (by omega)
end Vm
end Go.Proofs.YtjfpbponjhpdhaaDoor
namespace Go.Proofs.YtjfpbponjhpdhaaDoor
open Go.RowKit
set_option linter.unusedVariables false
set_option linter.unusedSimpArgs false
namespace Vm
open Kc
theorem undMac : Tryd.prog.underlying 37 = some (.struct (Tryd.prog.fieldsOf 37)) := by kernel_rfl
/-- A machine, loaded whole. -/
theorem loadMac {w : World} {b : Nat} {M : Mac} (h : IsMac w b M) : (Instr.loadAt 37 (.pointer (some ⟨b, 0, none⟩))).run Tryd.prog w = .ok (.agg (tab 8211 (mc M))) w := by
  refine run_loadAt_mid w b 0 _ ((List.range 8211).map (mc M)) _ (fun j v hv => ?_) undMac rfl (by rw [List.length_map, List.length_range]; exact infM')
  obtain ⟨hj, rfl⟩ := List.getElem?_eq_some_iff.1 hv
  simp only [List.length_map, List.length_range] at hj
  have := IsTab.cell h j hj
  simpa using this
theorem Step_walk (w : World) (b s : Nat) (R : World → Prop) (hC : Calls Tryd.prog 36 #[.pointer (some ⟨b, 0, none⟩), .pointer (some ⟨s, 0, none⟩)] w fun e w' => e = .returned (.tuple #[]) ∧ R w') :
    Calls Tryd.prog 14 #[.pointer (some ⟨b, 0, none⟩), .pointer (some ⟨s, 0, none⟩)] w fun e w' => e = .returned .nilIface ∧ R w' := by
  have HC := Lib.hid hC
  clear hC
  go_enter Tryd.func14, Tryd.ntmps14
  go_wp2_with (go_at_call 36; (with_reducible refine HC.out.mono ?_); rintro e y ⟨he, hr⟩; obtain rfl : e = _ := he; have HR := Lib.hid hr; clear hr HC)
  exact bodyPost_ret (v := .nilIface) (by simp [results, Tryd.results14, go_sem]) rfl ⟨rfl, HR.out⟩
end Vm
end Go.Proofs.YtjfpbponjhpdhaaDoor
