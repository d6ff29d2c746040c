/-
  vm: a step that jumps. Written by genYm.py. Own work.
-/
import Derived.Test.YtdmffnjbholkkaaDoorYl
namespace Go.Proofs.YtdmffnjbholkkaaDoor
open Go.RowKit
set_option linter.unusedVariables false
set_option linter.unusedSimpArgs false
namespace Vm
open Kc
set_option maxHeartbeats 2000000 in
set_option maxRecDepth 100000 in
theorem step_jump (w : World) (b s : Nat) (M : Mac) (x : Nat) (h : Pre w b M x) (hop : 29 ≤ pOp x ∧ pOp x ≤ 33) :
    Calls Tryd.prog 65 #[.pointer (some ⟨b, 0, none⟩), .pointer (some ⟨s, 0, none⟩)] w fun e w' => e = .returned (.tuple #[]) ∧ IsMac w' b (jumpM M (pOp x) (pD x) (pA x) (wN (pN x))) ∧ Kept (fun k => k = b) w w' := by
  have k3 : w.cell? ⟨b, 8209, none⟩ = some (.bool false) := h.hh ▸ h.mac.halted
  have k2 := h.mac.pc
  have tpc : decide (8192 ≤ (M.pc : Int)) = false := by have := h.pc; simp; omega
  have HP := Lib.hid h
  have hxb : x < 18446744073709551616 := h.hx ▸ h.ok.mem _
  have HXB := Lib.hid hxb
  clear hxb
  have to0 : ((pOp x : Int) == 0) = false := by simp; omega
  have to1 : decide ((pOp x : Int) < 26) = false := by simp; omega
  have to2 : ((pOp x : Int) == 26) = false := by simp; omega
  have to3 : decide ((pOp x : Int) ≤ 28) = false := by simp; omega
  have to4 : decide ((pOp x : Int) ≤ 33) = true := by simp; omega
  have HO := Lib.hid hop
  clear hop
  clear h
  go_enter Tryd.func65, Tryd.ntmps65
  go_upto_region 3 with (fail)
  have NE : Nonempty (Wd (fun z => Below w.heap.size w z)) := ⟨⟨w.drew, (Below.refl _ _).drew⟩⟩
  have kpc : ∀ z : Wd (fun z => Below w.heap.size w z), z.val.cell? ⟨b, 8208, none⟩ = some (.int .u64 (M.pc : Int)) := fun z => keep1 z.ok HP.out.mac.pc
  have km : ∀ z : Wd (fun z => Below w.heap.size w z), z.val.cell? ⟨b, M.pc, none⟩ = some (.int .u64 (x : Int)) := fun z => keep1 z.ok (HP.out.hx ▸ HP.out.mac.mem HP.out.pc)
  have hlt : (M.pc : Int) < 8192 := by have := HP.out.pc; omega
  have hpv : Hid (partsV x = .tuple #[.int .i64 (pOp x), .int .i64 (pD x), .int .i64 (pA x), .int .i64 (pB x), .int .i64 (pC x), .int .i64 (pN x), .bool true]) := Lib.hid (if_pos HP.out.pok)
  have Q1 := Lib.hid (fun z : Wd (fun z => Below w.heap.size w z) => in_of_below z (fun y hb => bl z.ok hb) (hpv.out ▸ parts_walk z.val x HXB.out))
  clear k2 k3 tpc
  refine wp_region_in (fun z => Below w.heap.size w z) (by kernel_rfl) (by kernel_rfl) (Below.refl _ _).drew ?_
  repeat (go_big_quiet_step (with_reducible exact Q1.out _))
  refine wpQuiet_nil ?_
  rintro y0 ⟨z, rfl⟩
  have HZ := Lib.hid (HP.out.mac.below z.ok)
  have HB := Lib.hid z.ok
  clear Q1 kpc km NE hlt
  generalize z.val = y at *
  have HJ : Hid (Calls Tryd.prog 81 #[.pointer (some ⟨b, 0, none⟩), .int .i64 (pOp x), .int .i64 (pD x), .int .i64 (pA x), .int .u64 (IntKind.u64.wrap (pN x))] y fun e w' => e = .returned (.tuple #[]) ∧ IsMac w' b (jumpM M (pOp x) (pD x) (pA x) (wN (pN x))) ∧ Kept (fun k => k = b) y w') := Lib.hid (by rw [wN_eq]; exact jump_walk y b (pOp x) (pD x) (pA x) (wN (pN x)) M HZ.out HO.out (pD_lt x) (pA_lt x) HP.out.pc)
  go_wp2_with (go_at_call 81; (with_reducible refine HJ.out.mono ?_); rintro e y2 ⟨he, hm, hk⟩; obtain rfl : e = _ := he; have HM2 := Lib.hid hm; have HK2 := Lib.hid hk; clear hm hk HJ)
  exact bodyPost_end (v := .tuple #[]) (by simp [results, Tryd.results65, go_sem]) rfl ⟨rfl, HM2.out, (Kept.ofBelow HB.out).trans HK2.out fun _ _ h => h⟩
theorem lowB_le' {w : World} (ht : Laid.KTab w) : Wt.lowB ≤ w.heap.size := by
  have := inHeap (ht 0 (by decide))
  unfold Wt.lowB
  omega
/-- The parts of an instruction's word are the instruction's. -/
theorem parts_code' (op d a b c n : Int) (h : codeOk op d a b c n) : ∃ x : Nat, (x : Int) = codeW op d a b c n ∧ x < 18446744073709551616 ∧ pOk x = true ∧ (pOp x : Int) = op ∧ (pD x : Int) = d ∧ (pA x : Int) = a ∧ (pB x : Int) = b ∧ (pC x : Int) = c ∧ pN x = n := by
  unfold codeOk gd at h
  have hw : codeW op d a b c n = op * 72057594037927936 + d * 4503599627370496 + a * 281474976710656 + b * 17592186044416 + c * 1099511627776 + n % 4294967296 := rfl
  obtain ⟨x, hx⟩ := Int.eq_ofNat_of_zero_le (show 0 ≤ codeW op d a b c n by omega)
  rw [hw] at hx
  have e1 : (pOp x : Int) = op := by unfold pOp; omega
  have e2 : (pN0 x : Int) = 0 := by unfold pN0; omega
  refine ⟨x, by omega, by omega, ?_, e1, by unfold pD; omega, by unfold pA; omega, by unfold pB; omega, by unfold pC; omega, by unfold pN; omega⟩
  unfold pOk
  rw [Bool.and_eq_true]
  exact ⟨decide_eq_true (by omega), decide_eq_true (by omega)⟩
/-- An instruction whose parts are in range, and its word. -/
def insOf (op d a b c : Nat) (n : Int) : Ins := ⟨op, d, a, b, c, n, 0⟩
theorem m16_nat (d : Nat) (h : d < 16) : m16 d = d := by
  unfold m16
  have : IntKind.u64.wrap (d : Int) = d := by rw [IntWalk.u64_in _ (by omega)]
  rw [this, Int.tmod_eq_emod_of_nonneg (by omega)]
  unfold wrap64
  omega
structure WordIs (x op d a b c : Nat) (n : Int) : Prop where
  lt : x < 18446744073709551616
  ok : pOk x = true
  op : pOp x = op
  d : pD x = d
  a : pA x = a
  b : pB x = b
  c : pC x = c
  n : pN x = n
theorem word_of (op d a b c : Nat) (n : Int) (hop : op ≤ 35) (hd : d < 16) (ha : a < 16) (hb : b < 16) (hc : c < 16) (hn : -2147483648 ≤ n ∧ n < 2147483648) : WordIs (wordOf (insOf op d a b c n)) op d a b c n := by
  have hok : codeOk op d a b c n := by
    unfold codeOk gd
    omega
  obtain ⟨x, hx, hl, ho, h1, h2, h3, h4, h5, h6⟩ := parts_code' op d a b c n hok
  have e : wordOf (insOf op d a b c n) = x := by
    unfold wordOf insOf
    rw [m16_nat d hd, m16_nat a ha, m16_nat b hb, m16_nat c hc, if_pos hok, ← hx]
    omega
  rw [e]
  exact ⟨hl, ho, by omega, by omega, by omega, by omega, by omega, h6⟩
end Vm
end Go.Proofs.YtdmffnjbholkkaaDoor
