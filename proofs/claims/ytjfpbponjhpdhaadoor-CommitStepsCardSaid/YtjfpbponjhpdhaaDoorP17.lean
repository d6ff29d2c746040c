/- Merged of Yu Bits Shelf. Own work. -/
import Derived.Test.YtjfpbponjhpdhaaDoorP16
import Derived.Test.YtjfpbponjhpdhaaDoorP14
import Derived.Laws.BitsAllLaws
import Derived.Shelf.Small.Bits
import Derived.Shelf.Strconv.Itoa0
import Derived.Shelf.Bits.Mul64
import Derived.Test.YtjfpbponjhpdhaaDoorProg
namespace Go.Proofs.YtjfpbponjhpdhaaDoor
open Go.RowKit
set_option linter.unusedVariables false
set_option linter.unusedSimpArgs false
namespace Vm
open Kc
set_option maxHeartbeats 2000000 in
set_option maxRecDepth 100000 in
theorem step_exch (w : World) (b s : Nat) (M : Mac) (x : Nat) (h : Pre w b M x) (hop : pOp x = 34 ∨ pOp x = 35) (Rx : World → World → Prop)
    (hE : ∀ y, Below w.heap.size w y → Calls Tryd.prog 62 #[.pointer (some ⟨b, 0, none⟩), .pointer (some ⟨s, 0, none⟩), .int .i64 (pOp x), .int .u64 (M.reg (pA x)), .int .u64 (M.reg (pB x))] y fun e w' => e = .returned (.tuple #[]) ∧ Rx y w') :
    Calls Tryd.prog 36 #[.pointer (some ⟨b, 0, none⟩), .pointer (some ⟨s, 0, none⟩)] w fun e w' => e = .returned (.tuple #[]) ∧ ∃ y, Below w.heap.size w y ∧ Rx y w' := by
  have k3 : w.cell? ⟨b, 8209, none⟩ = some (.bool false) := h.hh ▸ h.mac.halted
  have k2 := h.mac.pc
  have tpc : decide (8192 ≤ (M.pc : Int)) = false := by have := h.pc; simp; omega
  have HP := Lib.hid h
  have hxb : x < 18446744073709551616 := h.hx ▸ h.ok.mem _
  have HXB := Lib.hid hxb
  clear hxb
  have to0 : ((pOp x : Int) == 0) = false := by simp; omega
  have to1 : decide ((pOp x : Int) < 26) = false := by simp; omega
  have to2 : ((pOp x : Int) == 26) = false := by simp; omega
  have to3 : decide ((pOp x : Int) ≤ 28) = false := by simp; omega
  have to4 : decide ((pOp x : Int) ≤ 33) = false := by simp; omega
  have HE := Lib.hid hE
  clear hop hE
  clear h
  go_enter Tryd.func36, Tryd.ntmps36
  go_upto_region 3 with (fail)
  have NE : Nonempty (Wd (fun z => Below w.heap.size w z)) := ⟨⟨w.drew, (Below.refl _ _).drew⟩⟩
  have kpc : ∀ z : Wd (fun z => Below w.heap.size w z), z.val.cell? ⟨b, 8208, none⟩ = some (.int .u64 (M.pc : Int)) := fun z => keep1 z.ok HP.out.mac.pc
  have km : ∀ z : Wd (fun z => Below w.heap.size w z), z.val.cell? ⟨b, M.pc, none⟩ = some (.int .u64 (x : Int)) := fun z => keep1 z.ok (HP.out.hx ▸ HP.out.mac.mem HP.out.pc)
  have hlt : (M.pc : Int) < 8192 := by have := HP.out.pc; omega
  have hpv : Hid (partsV x = .tuple #[.int .i64 (pOp x), .int .i64 (pD x), .int .i64 (pA x), .int .i64 (pB x), .int .i64 (pC x), .int .i64 (pN x), .bool true]) := Lib.hid (if_pos HP.out.pok)
  have Q1 := Lib.hid (fun z : Wd (fun z => Below w.heap.size w z) => in_of_below z (fun y hb => bl z.ok hb) (hpv.out ▸ parts_walk z.val x HXB.out))
  clear k2 k3 tpc
  refine wp_region_in (fun z => Below w.heap.size w z) (by kernel_rfl) (by kernel_rfl) (Below.refl _ _).drew ?_
  repeat (go_big_quiet_step (with_reducible exact Q1.out _))
  refine wpQuiet_nil ?_
  rintro y0 ⟨z, rfl⟩
  have HZ := Lib.hid (HP.out.mac.below z.ok)
  have HB := Lib.hid z.ok
  clear Q1 kpc km NE hlt
  generalize z.val = y at *
  have KA := Lib.hid (HZ.out.reg (pA_lt x))
  have KB := Lib.hid (HZ.out.reg (pB_lt x))
  have HZD := Lib.hid (HZ.out.kept (Wt.kept_drew y) id)
  have HBD := Lib.hid HB.out.drew
  go_upto_region 7 with (fail)
  refine wp_region_oz (fun z : World => y.drew = z) 13 (.take 0 (.take 1 (.take 2 (.free 3 (.free 4 (.free 5 (.free 6 (.take 7 (.free 8 (.free 9 (.free 10 (.free 11 (.take 12 (.one 13 .done)))))))))))))) (by kernel_rfl) (by kernel_rfl) rfl ?_
  generalize y.drew = y1 at *
  refine oz_tk (some 48) (.pointer (some ⟨b, 0, none⟩)) rfl rfl (by go_simp) (fun _ _ => by simp [execOp, go_sem]) ?_
  simp only [Act.put, pS]
  refine oz_tk (some 49) (.pointer (some ⟨s, 0, none⟩)) rfl rfl (by go_simp) (fun _ _ => by simp [execOp, go_sem]) ?_
  simp only [Act.put, pS]
  refine oz_tk (some 50) (.int .i64 (pOp x)) rfl rfl (by go_simp) (fun _ _ => by simp [execOp, go_sem]) ?_
  simp only [Act.put, pS]
  refine oz_fr (some 51) (.pointer (some ⟨b, 8192, none⟩)) rfl rfl (by go_simp) (fun _ => by simp [execOp, go_sem]) ?_
  simp only [Act.put, pS]
  refine oz_fr (some 52) (.int .i64 (pA x)) rfl rfl (by go_simp) (fun _ => by simp [execOp, go_sem]) ?_
  simp only [Act.put, pS]
  refine oz_fr (some 53) (.pointer (some ⟨b, 8192, none⟩)) rfl rfl (by go_simp) (fun _ => by simp [execOp, go_sem]) ?_
  simp only [Act.put, pS]
  refine oz_fr (some 54) (.pointer (some ⟨b, 8192 + pA x, none⟩)) rfl rfl (by go_simp) (fun y => by have h := ix16 b (pA x) (pA_lt x) y; simp [execOp, go_sem, h, Result.andThen]) ?_
  simp only [Act.put, pS]
  refine oz_ld (some 55) 33 (.tmp 54) (.pointer (some ⟨b, 8192 + pA x, none⟩)) (.int .u64 (M.reg (pA x) : Int)) rfl rfl (by go_simp) rfl rfl (fun y hy => by have h := hy ▸ HZD.out.reg (pA_lt x); simp [Instr.loadAt, go_sem, h, Tryd.underlying33]) ?_
  simp only [Act.put, pS]
  refine oz_fr (some 56) (.pointer (some ⟨b, 8192, none⟩)) rfl rfl (by go_simp) (fun _ => by simp [execOp, go_sem]) ?_
  simp only [Act.put, pS]
  refine oz_fr (some 57) (.int .i64 (pB x)) rfl rfl (by go_simp) (fun _ => by simp [execOp, go_sem]) ?_
  simp only [Act.put, pS]
  refine oz_fr (some 58) (.pointer (some ⟨b, 8192, none⟩)) rfl rfl (by go_simp) (fun _ => by simp [execOp, go_sem]) ?_
  simp only [Act.put, pS]
  refine oz_fr (some 59) (.pointer (some ⟨b, 8192 + pB x, none⟩)) rfl rfl (by go_simp) (fun y => by have h := ix16 b (pB x) (pB_lt x) y; simp [execOp, go_sem, h, Result.andThen]) ?_
  simp only [Act.put, pS]
  refine oz_ld (some 60) 33 (.tmp 59) (.pointer (some ⟨b, 8192 + pB x, none⟩)) (.int .u64 (M.reg (pB x) : Int)) rfl rfl (by go_simp) rfl rfl (fun y hy => by have h := hy ▸ HZD.out.reg (pB_lt x); simp [Instr.loadAt, go_sem, h, Tryd.underlying33]) ?_
  simp only [Act.put, pS]
  have HC := Lib.hid (HE.out y1 HBD.out)
  refine oz_z rfl (by go_simp) fun K hK => ?_
  go_simp
  refine HC.out.mono ?_
  rintro e y2 ⟨he, hr⟩
  obtain rfl : e = _ := he
  have HR := Lib.hid hr
  refine hK _ _ ?_
  clear hK K hr HC
  refine oz_done (NoPanic.normal ?_)
  go_wp2_with (fail)
  exact bodyPost_end (v := .tuple #[]) (by simp [results, Tryd.results36, go_sem]) rfl ⟨rfl, y1, HBD.out, HR.out⟩
end Vm
end Go.Proofs.YtjfpbponjhpdhaaDoor
namespace Go.Proofs.YtjfpbponjhpdhaaDoor
namespace Bt
theorem xor_ones (x : Nat) (h : x < 18446744073709551616) : x ^^^ 18446744073709551615 = 18446744073709551615 - x := by
  apply Nat.eq_of_testBit_eq
  intro i
  rw [Nat.testBit_xor, show (18446744073709551615 : Nat) - x = 2 ^ 64 - (x + 1) by omega, Nat.testBit_two_pow_sub_succ (by simpa using h), show (18446744073709551615 : Nat) = 2 ^ 64 - 1 by rfl, Nat.testBit_two_pow_sub_one]
  by_cases hi : i < 64
  · simp [hi]
  · have : x.testBit i = false := Nat.testBit_lt_two_pow (Nat.lt_of_lt_of_le (by simpa using h : x < 2 ^ 64) (Nat.pow_le_pow_right (by decide) (by omega)))
    simp [hi, this]
end Bt
end Go.Proofs.YtjfpbponjhpdhaaDoor
namespace Go.Proofs
open Go.Shelf
def Tryd.lays134_ren : Go.Shelf.Ren := ⟨fun | 134 => 100 | 129 => 101 | n => n, fun | 53 => 33 | 3 => 3 | 4 => 4 | 46 => 40 | 5 => 5 | 9 => 9 | n => n, fun | n => n⟩
theorem Tryd.lays134 : Go.Proofs.Lays.n134 Tryd.prog Tryd.lays134_ren := {
  mixed := by kernel_rfl
  f129 := Tryd.func101.trans (congrArg some (by kernel_rfl))
  f134 := Tryd.func100.trans (congrArg some (by kernel_rfl))
  t3 := Tryd.underlying3
  a3 := Tryd.isAgg3
  z3 := Tryd.sizeOf3
  v3 := Tryd.zeroValue3
  t4 := Tryd.underlying4
  a4 := Tryd.isAgg4
  z4 := Tryd.sizeOf4
  v4 := Tryd.zeroValue4
  t5 := Tryd.underlying5
  a5 := Tryd.isAgg5
  z5 := Tryd.sizeOf5
  v5 := Tryd.zeroValue5
  t9 := Tryd.underlying9
  a9 := Tryd.isAgg9
  z9 := Tryd.sizeOf9
  v9 := Tryd.zeroValue9
  t46 := Tryd.underlying40
  a46 := Tryd.isAgg40
  z46 := Tryd.sizeOf40
  v46 := Tryd.zeroValue40
  t53 := Tryd.underlying33
  a53 := Tryd.isAgg33
  z53 := Tryd.sizeOf33
  v53 := Tryd.zeroValue33 }
/-- bits.LeadingZeros64: "LeadingZeros64 returns the number of leading zero bits in x; the result is 64 for x == 0.": IT RETURNS '64 - Lib.bitLen x'; the world is as it was. ITS CALLEE bits.Len64 IS MET BY ITS OWN CONTRACT OFF THE SHELF (lay that first): entered in place it sends the kernel out of memory. (LAID: no walk: one application.) -/
theorem Tryd.bits_LeadingZeros64 (x : Int) (w : World) (h0 : 0 ≤ x) (h1 : x ≤ 18446744073709551615) :
    Calls Tryd.prog 100 #[.int .u64 x] w fun e w' => e = .returned (.int .i64 (64 - (Lib.bitLen x.toNat : Int))) ∧ w' = w := Any.bits_LeadingZeros64 Tryd.lays134 x w h0 h1
def Tryd.lays264_ren : Go.Shelf.Ren := ⟨fun | 264 => 90 | n => n, fun | 53 => 33 | 46 => 40 | n => n, fun | n => n⟩
theorem Tryd.lays264 : Go.Proofs.Lays.n264 Tryd.prog Tryd.lays264_ren := {
  mixed := by kernel_rfl
  f264 := Tryd.func90.trans (congrArg some (by kernel_rfl))
  t46 := Tryd.underlying40
  a46 := Tryd.isAgg40
  z46 := Tryd.sizeOf40
  v46 := Tryd.zeroValue40
  t53 := Tryd.underlying33
  a53 := Tryd.isAgg33
  z53 := Tryd.sizeOf33
  v53 := Tryd.zeroValue33 }
open Go.RowKit Go.Lib in
theorem Tryd.bits_Mul64 (x y : Nat) (hx : x < 18446744073709551616) (hy : y < 18446744073709551616) (w : World) :
    Calls Tryd.prog 90 #[.int .u64 x, .int .u64 y] w fun e w' => e = .returned (.tuple #[.int .u64 ((x * y / 18446744073709551616 : Nat) : Int), .int .u64 ((x * y % 18446744073709551616 : Nat) : Int)]) ∧ w' = w := Any.bits_Mul64 Tryd.lays264 x y hx hy w
end Go.Proofs
