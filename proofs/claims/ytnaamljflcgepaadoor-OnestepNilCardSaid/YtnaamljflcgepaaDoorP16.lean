/- Merged of Ys Yt Yu Bits Shelf Wq Ws Yx Fa Fb Dg Dh Di. Own work. -/
import Derived.Test.YtnaamljflcgepaaDoorP15
import Derived.Laws.BitsAllLaws
import Derived.Shelf.Small.Bits
import Derived.Shelf.Strconv.Itoa0
import Derived.Shelf.Bits.Mul64
import Derived.Test.YtnaamljflcgepaaDoorProg
import Derived.Test.YtnaamljflcgepaaDoorP06
import Derived.Test.YtnaamljflcgepaaDoorP01
import Derived.Outline
import Derived.Lib.Hide
import Derived.OpenShut
import Derived.Deep.QuietTactic
import Derived.BigQuiet
import Derived.Deep.Cut
import Derived.Deep.CutBlock
import Derived.Laws.Bits64
import Derived.Laws.Bits64b
import Derived.Test.YtnaamljflcgepaaDoorP12
namespace Go.Proofs.YtnaamljflcgepaaDoor
open Go.RowKit
set_option linter.unusedVariables false
set_option linter.unusedSimpArgs false
namespace Vm
open Kc Mk Wt
theorem ba (w : World) (o : Obj) : Below w.heap.size w (w.alloc o) := (Below.refl _ _).alloc (Nat.le_refl _) _
/-- A word's byte. -/
def wb (v j : Nat) : Bt := BitVec.ofNat 8 (Rl.byteOf v j)
theorem wb_nat (v j : Nat) : (wb v j).toNat = Rl.byteOf v j := by
  unfold wb Rl.byteOf
  rw [BitVec.toNat_ofNat]
  omega
/-- A word of bytes. -/
def wd (g : Nat → Bt) (i : Nat) : Nat := Rl.gv (fun j => (g (8 * i + j)).toNat) 8
/-- A digest, noughts behind it. -/
def ht (h : Hx) : Px := fun j => if j < 32 then h j else 0#8
end Vm
end Go.Proofs.YtnaamljflcgepaaDoor
namespace Go.Proofs.YtnaamljflcgepaaDoor
open Go.RowKit
set_option linter.unusedVariables false
set_option linter.unusedSimpArgs false
namespace Vm
open Kc Mk Wt
end Vm
end Go.Proofs.YtnaamljflcgepaaDoor
namespace Go.Proofs.YtnaamljflcgepaaDoor
open Go.RowKit
set_option linter.unusedVariables false
set_option linter.unusedSimpArgs false
namespace Vm
open Kc
end Vm
end Go.Proofs.YtnaamljflcgepaaDoor
namespace Go.Proofs.YtnaamljflcgepaaDoor
namespace Bt
end Bt
end Go.Proofs.YtnaamljflcgepaaDoor
namespace Go.Proofs
open Go.Shelf
end Go.Proofs
namespace Go.Proofs.YtnaamljflcgepaaDoor
open Go.RowKit
set_option linter.unusedVariables false
namespace U
def add (a b : Int) : Int := (a + b) % 18446744073709551616
def and (a b : Int) : Int := ((a.toNat &&& b.toNat : Nat) : Int)
def or (a b : Int) : Int := ((a.toNat ||| b.toNat : Nat) : Int)
def xor (a b : Int) : Int := ((a.toNat ^^^ b.toNat : Nat) : Int)
def not (a : Int) : Int := 18446744073709551615 - a
def b2 (p : Bool) : Int := if p then 1 else 0
def lt (a b : Int) : Int := b2 (decide (a < b))
end U
open Go.RowKit
set_option linter.unusedVariables false
namespace U
def byte (a b : Int) : Int := if 7 < a then 0 else b / 2 ^ (56 - 8 * a).toNat % 256
theorem p2 (k : Nat) : (0 : Int) < 2 ^ k := Int.pow_pos (by decide)
end U
end Go.Proofs.YtnaamljflcgepaaDoor
namespace Go.Proofs.YtnaamljflcgepaaDoor
open Go.RowKit
set_option linter.unusedVariables false
end Go.Proofs.YtnaamljflcgepaaDoor
namespace Go.Proofs.YtnaamljflcgepaaDoor
set_option linter.unusedVariables false
namespace Dv
/-- The shifted dividend's words. -/
theorem words {hi lo s : Nat} (hlo : lo < 2 ^ 64) (hs : s ≤ 64) : (hi * 2 ^ 64 + lo) * 2 ^ s = (hi * 2 ^ s + lo / 2 ^ (64 - s)) * 2 ^ 64 + lo * 2 ^ s % 2 ^ 64 := by
  have e1 : 2 ^ 64 = 2 ^ (64 - s) * 2 ^ s := by rw [← Nat.pow_add]; congr 1; omega
  have e2 : lo * 2 ^ s % 2 ^ 64 = lo % 2 ^ (64 - s) * 2 ^ s := by rw [e1, Nat.mul_mod_mul_right]
  have e3 := Nat.div_add_mod lo (2 ^ (64 - s))
  rw [e2, Nat.add_mul, Nat.add_mul]
  have e4 : lo * 2 ^ s = lo / 2 ^ (64 - s) * 2 ^ 64 + lo % 2 ^ (64 - s) * 2 ^ s := by
    calc lo * 2 ^ s = (2 ^ (64 - s) * (lo / 2 ^ (64 - s)) + lo % 2 ^ (64 - s)) * 2 ^ s := by rw [e3]
      _ = 2 ^ (64 - s) * (lo / 2 ^ (64 - s)) * 2 ^ s + lo % 2 ^ (64 - s) * 2 ^ s := Nat.add_mul _ _ _
      _ = lo / 2 ^ (64 - s) * 2 ^ 64 + lo % 2 ^ (64 - s) * 2 ^ s := by rw [e1, Nat.mul_comm (2 ^ (64 - s)), Nat.mul_assoc]
  have e5 : hi * 2 ^ 64 * 2 ^ s = hi * 2 ^ s * 2 ^ 64 := by rw [Nat.mul_assoc, Nat.mul_comm (2 ^ 64), ← Nat.mul_assoc]
  omega
end Dv
namespace Dv
end Dv
namespace Dv
end Dv
namespace Dv
end Dv
end Go.Proofs.YtnaamljflcgepaaDoor
namespace Go.Proofs.YtnaamljflcgepaaDoor
open Go.RowKit
set_option linter.unusedVariables false
namespace W1
end W1
end Go.Proofs.YtnaamljflcgepaaDoor
namespace Go.Proofs.YtnaamljflcgepaaDoor
open Go.RowKit
set_option linter.unusedVariables false
namespace W1
end W1
end Go.Proofs.YtnaamljflcgepaaDoor
namespace Go.Proofs.YtnaamljflcgepaaDoor
open Go.RowKit
set_option linter.unusedVariables false
namespace W1
end W1
end Go.Proofs.YtnaamljflcgepaaDoor
namespace Go.Proofs.YtnaamljflcgepaaDoor
open Go.RowKit
set_option linter.unusedVariables false
namespace W1
end W1
end Go.Proofs.YtnaamljflcgepaaDoor
namespace Go.Proofs.YtnaamljflcgepaaDoor
open Go.RowKit
set_option linter.unusedVariables false
namespace W1
end W1
end Go.Proofs.YtnaamljflcgepaaDoor
namespace Go.Proofs.YtnaamljflcgepaaDoor
open Go.RowKit
set_option linter.unusedVariables false
namespace W1
end W1
end Go.Proofs.YtnaamljflcgepaaDoor
namespace Go.Proofs.YtnaamljflcgepaaDoor
open Go.RowKit
set_option linter.unusedVariables false
set_option linter.unusedSimpArgs false
namespace Vm
open Kc
end Vm
end Go.Proofs.YtnaamljflcgepaaDoor
namespace Go.Proofs.YtnaamljflcgepaaDoor
open Go.RowKit
set_option linter.unusedVariables false
set_option linter.unusedSimpArgs false
namespace Os
open Kc Mk Co
open Vm (Mac setR)
/-- A box that holds a head. -/
def IsHd (w : World) (q : Nat) (M : Mac) : Prop := IsTab w q 35 19 (Co.hv M)
section
variable {w w' : World} {q : Nat} {M : Mac}
theorem IsHd.below (h : IsHd w q M) (hb : Below w.heap.size w w') : IsHd w' q M := IsTab.below h hb
theorem IsHd.lt (h : IsHd w q M) : q < w.heap.size := IsTab.lt h
theorem IsHd.fz (h : IsHd w q M) (i : Nat) : w.frozen? ⟨q, i, none⟩ = false := IsTab.fz h i
theorem IsHd.reg (h : IsHd w q M) {p : Nat} (hp : p < 16) : w.cell? ⟨q, p, none⟩ = some (.int .u64 (M.reg p)) := by
  have := IsTab.cell h p (by omega); rw [this]; unfold Co.hv; rw [if_pos hp]
theorem IsHd.pc (h : IsHd w q M) : w.cell? ⟨q, 16, none⟩ = some (.int .u64 M.pc) := IsTab.cell h 16 (by decide)
theorem IsHd.halted (h : IsHd w q M) : w.cell? ⟨q, 17, none⟩ = some (.bool M.halted) := IsTab.cell h 17 (by decide)
theorem IsHd.exit (h : IsHd w q M) : w.cell? ⟨q, 18, none⟩ = some (.int .u64 M.exit) := IsTab.cell h 18 (by decide)
theorem IsHd.kept {S : Nat → Prop} (h : IsHd w q M) (hk : Kept S w w') (hn : ¬ S q) : IsHd w' q M := (hk.block _ (IsTab.lt h) hn).trans h
theorem IsHd.setPc (h : IsHd w q M) (x : Nat) : IsHd (w.setCell ⟨q, 16, none⟩ (.int .u64 (x : Int))) q { M with pc := x } := IsTab.cong (IsTab.set h 16 _) fun j hj => by
  unfold updv Co.hv
  by_cases e : j = 16
  · subst e; rfl
  · rw [if_neg e]
    by_cases h1 : j < 16
    · rw [if_pos h1, if_pos h1]
    · rw [if_neg h1, if_neg h1, if_neg e, if_neg e]
theorem IsHd.setHalted (h : IsHd w q M) (x : Bool) : IsHd (w.setCell ⟨q, 17, none⟩ (.bool x)) q { M with halted := x } := IsTab.cong (IsTab.set h 17 _) fun j hj => by
  unfold updv Co.hv
  by_cases e : j = 17
  · subst e; rfl
  · rw [if_neg e]
    by_cases h1 : j < 16
    · rw [if_pos h1, if_pos h1]
    · rw [if_neg h1, if_neg h1]
      by_cases h2 : j = 16
      · rw [if_pos h2, if_pos h2]
      · rw [if_neg h2, if_neg h2, if_neg e, if_neg e]
theorem IsHd.setExit (h : IsHd w q M) (x : Nat) : IsHd (w.setCell ⟨q, 18, none⟩ (.int .u64 (x : Int))) q { M with exit := x } := IsTab.cong (IsTab.set h 18 _) fun j hj => by
  unfold updv Co.hv
  by_cases e : j = 18
  · subst e; rfl
  · rw [if_neg e]
    by_cases h1 : j < 16
    · rw [if_pos h1, if_pos h1]
    · rw [if_neg h1, if_neg h1]
      by_cases h2 : j = 16
      · rw [if_pos h2, if_pos h2]
      · rw [if_neg h2, if_neg h2]
        by_cases h3 : j = 17
        · rw [if_pos h3, if_pos h3]
        · rw [if_neg h3, if_neg h3]; omega
end
/-- A machine that is stopped. -/
def stopH (M : Mac) (x : Nat) : Mac := { M with halted := true, exit := x }
set_option maxHeartbeats 2000000 in
set_option maxRecDepth 100000 in
theorem stopH_walk (w : World) (q x : Nat) (M : Mac) (hm : IsHd w q M) :
    Calls Tryd.prog 28 #[.pointer (some ⟨q, 0, none⟩), .int .u64 x] w fun e w' => e = .returned (.tuple #[]) ∧ IsHd w' q (stopH M x) ∧ Kept (fun k => k = q) w w' := by
  have H := Lib.hid hm
  have k0 := hm.halted
  have f0 := hm.fz 17
  have k1 := (hm.setHalted true).exit
  have f1 := (hm.setHalted true).fz 18
  clear hm
  go_enter Tryd.func28, Tryd.ntmps28
  go_wp2_with (fail)
  exact bodyPost_end (v := .tuple #[]) (by simp [results, Tryd.results28, go_sem]) rfl ⟨rfl, (H.out.setHalted true).setExit x, Vm.kept_set (S := fun k => k = q) (Vm.kept_set (S := fun k => k = q) (Kept.refl _ _) q 17 rfl _) q 18 rfl _⟩
set_option maxHeartbeats 2000000 in
set_option maxRecDepth 100000 in
theorem adv_still (w : World) (q : Nat) (v : Value) (M : Mac) (hm : IsHd w q M) (hh : M.halted = true) :
    Calls Tryd.prog 18 #[.pointer (some ⟨q, 0, none⟩), v] w fun e w' => e = .returned .nilIface ∧ w' = w := by
  have k0 := hm.halted
  rw [hh] at k0
  clear hm hh
  go_enter Tryd.func18, Tryd.ntmps18
  go_wp2_with (fail)
  exact bodyPost_ret (v := .nilIface) (by simp [results, Tryd.results18, go_sem]) rfl ⟨rfl, rfl⟩
end Os
end Go.Proofs.YtnaamljflcgepaaDoor
namespace Go.Proofs.YtnaamljflcgepaaDoor
open Go.RowKit
set_option linter.unusedVariables false
set_option linter.unusedSimpArgs false
namespace Os
open Kc Mk Co
open Vm (Mac setR partsV pOk pOp pD pA pB pC pN pA_lt parts_walk)
theorem methRead_m (v : Value) (u : World) : (Go.method 309 65 v "moot/onestep.read").run Tryd.prog u = .ok (89, v) u := by kernel_rfl
theorem methRead_p (v : Value) (u : World) : (Go.method 309 72 v "moot/onestep.read").run Tryd.prog u = .ok (98, v) u := by kernel_rfl
set_option maxHeartbeats 2000000 in
set_option maxRecDepth 100000 in
theorem adv_halt_m (w : World) (q qm x : Nat) (M : Mac) (R0 R1 : World → Prop) (hm : IsHd w q M) (hh : M.halted = false) (hpc : M.pc < 8192) (hr : M.reg (pA x) < 18446744073709551616) (hx : x < 18446744073709551616) (hp : pOk x = true) (hop : pOp x = 0) (h0 : R0 w.drew)
    (hread : ∀ y, R0 y → Calls Tryd.prog 89 #[.pointer (some ⟨qm, 0, none⟩), .int .u64 M.pc] y fun e w' => e = .returned (.tuple #[.int .u64 x, .nilIface]) ∧ R1 w') (h1 : ∀ y, R1 y → IsHd y q M) :
    Calls Tryd.prog 18 #[.pointer (some ⟨q, 0, none⟩), .iface 65 (.pointer (some ⟨qm, 0, none⟩))] w fun e w' => e = .returned .nilIface ∧ ∃ y, R1 y ∧ IsHd w' q (stopH { M with pc := M.pc + 1 } (M.reg (pA x))) ∧ Kept (fun k => k = q) y w' := by
  have k0 := hm.halted
  have k1 := hm.pc
  rw [hh] at k0
  have t1 : decide ((8192 : Int) ≤ (M.pc : Int)) = false := by simp; omega
  have HZ : Hid (IsHd w.drew q M ∧ R0 w.drew) := Lib.hid ⟨IsTab.drew hm, h0⟩
  have HRD := Lib.hid hread
  have HH1 := Lib.hid h1
  have HPC := Lib.hid hpc
  have HX := Lib.hid (And.intro hx (And.intro hop hp))
  have hpv : Hid (partsV x = .tuple #[.int .i64 (pOp x), .int .i64 (pD x), .int .i64 (pA x), .int .i64 (pB x), .int .i64 (pC x), .int .i64 (pN x), .bool true]) := Lib.hid (if_pos hp)
  have HPW := Lib.hid (fun y : World => hpv.out ▸ parts_walk y x hx)
  rw [hop, show ((0 : Nat) : Int) = 0 from rfl] at HPW
  clear hm hh hpc hread h1 h0 hx hp hop hr
  go_enter Tryd.func18, Tryd.ntmps18
  go_upto_region 6 with (fail)
  clear k0 k1 t1
  refine wp_region_og (fun z : World => IsHd z q M) (.take 0 (.take 1 (.take 2 (.take 3 (.take 4 (.one 5 (.one 6 (.one 7 (.one 8 (.take 9 (.take 10 (.take 11 (.take 12 (.take 13 .done)))))))))))))) (by kernel_rfl) (by kernel_rfl) (HZ.out.1) ?_
  generalize w.drew = z0 at *
  refine og_tk (some 27) (.iface 65 (.pointer (some ⟨qm, 0, none⟩))) rfl rfl (by go_simp) (fun _ _ => by simp [execOp, go_sem]) ?_
  simp only [Act.put, pS]
  refine og_tk (some 28) (.pointer (some ⟨q, 0, none⟩)) rfl rfl (by go_simp) (fun _ _ => by simp [execOp, go_sem]) ?_
  simp only [Act.put, pS]
  refine og_tk (some 29) (.pointer (some ⟨q, 0, none⟩)) rfl rfl (by go_simp) (fun _ _ => by simp [execOp, go_sem]) ?_
  simp only [Act.put, pS]
  refine og_tk (some 30) (.pointer (some ⟨q, 16, none⟩)) rfl rfl (by go_simp) (fun _ _ => by simp [execOp, go_sem]) ?_
  simp only [Act.put, pS]
  refine og_ld (some 31) 32 (.tmp 30) (.pointer (some ⟨q, 16, none⟩)) (.int .u64 M.pc) rfl rfl (by go_simp) rfl rfl (fun y hy => by have h := IsHd.pc hy; simp [Instr.loadAt, go_sem, h, Tryd.underlying32]) ?_
  simp only [Act.put, pS]
  refine og_f rfl (by go_simp) fun K hK => ?_
  go_simp
  refine hK _ _ HZ.out.1 ?_
  clear hK K
  try simp only [List.getElem_toArray, List.getElem_cons_succ, List.getElem_cons_zero, Act.put, pS]
  refine og_f rfl (by go_simp) fun K hK => ?_
  go_simp
  refine hK _ _ HZ.out.1 ?_
  clear hK K
  try simp only [List.getElem_toArray, List.getElem_cons_succ, List.getElem_cons_zero, Act.put, pS]
  refine og_f rfl (by go_simp) fun K hK => ?_
  go_simp
  refine hK _ _ HZ.out.1 ?_
  clear hK K
  try simp only [List.getElem_toArray, List.getElem_cons_succ, List.getElem_cons_zero, Act.put, pS]
  have mr := fun (v : Value) (u : World) => methRead_m v u
  refine og_f rfl (by go_simp) fun K hK => ?_
  go_simp
  refine (HRD.out z0 HZ.out.2).mono ?_
  rintro e z1 ⟨he, hr1⟩
  obtain rfl : e = _ := he
  have HR := Lib.hid hr1
  have HM1 := Lib.hid (HH1.out z1 hr1)
  refine hK _ _ HM1.out ?_
  clear hK K hr1 mr HZ
  try simp only [List.getElem_toArray, List.getElem_cons_succ, List.getElem_cons_zero, Act.put, pS]
  refine og_tk (some 26) (.tuple #[.int .u64 x, .nilIface]) rfl rfl (by go_simp) (fun _ _ => by simp [execOp, go_sem]) ?_
  simp only [Act.put, pS]
  refine og_tk (some 36) (.int .u64 x) rfl rfl (by go_simp) (fun _ _ => by simp [execOp, go_sem]) ?_
  simp only [Act.put, pS]
  refine og_tk (some 37) (.nilIface) rfl rfl (by go_simp) (fun _ _ => by simp [execOp, go_sem]) ?_
  simp only [Act.put, pS]
  refine og_tk (some 5) (.int .u64 x) rfl rfl (by go_simp) (fun _ _ => by simp [execOp, go_sem]) ?_
  simp only [Act.put, pS]
  refine og_tk (some 6) (.nilIface) rfl rfl (by go_simp) (fun _ _ => by simp [execOp, go_sem]) ?_
  simp only [Act.put, pS]
  refine og_done (NoPanic.normal ?_)
  go_upto_region 15 with (go_at_call 29; (with_reducible refine (HPW.out _).mono ?_); rintro e y2 ⟨he, hb⟩; obtain rfl : e = _ := he; have H2 : Hid (IsHd y2 q M ∧ Kept (fun k => k = q) z1 y2) := Lib.hid ⟨HM1.out.below hb, (Kept.ofBelow hb).trans (Kept.refl (fun k => k = q) _) fun _ _ h => h⟩; clear hb HPW)
  clear HM1
  have k16 := H2.out.1.pc
  have f16 := H2.out.1.fz 16
  have HW : Hid (IntKind.u64.wrap ((M.pc : Int) + 1) = ((M.pc + 1 : Nat) : Int)) := Lib.hid (wrap_nn _ (by omega) (by have := HPC.out; omega))
  have HS : Hid (IsHd (y2.setCell ⟨q, 16, none⟩ (.int .u64 (IntKind.u64.wrap ((M.pc : Int) + 1)))) q { M with pc := M.pc + 1 } ∧ Kept (fun k => k = q) z1 (y2.setCell ⟨q, 16, none⟩ (.int .u64 (IntKind.u64.wrap ((M.pc : Int) + 1))))) := Lib.hid ⟨by rw [HW.out]; exact H2.out.1.setPc (M.pc + 1), Vm.kept_set (S := fun k => k = q) H2.out.2 q 16 rfl _⟩
  go_upto_region 17 with (fail)
  clear k16 f16 H2
  generalize y2.setCell ⟨q, 16, none⟩ (.int .u64 (IntKind.u64.wrap ((M.pc : Int) + 1))) = y3 at *
  have ha : (pA x : Int) < 16 := by have := pA_lt x; omega
  have ka := HS.out.1.reg (pA_lt x)
  have HC := Lib.hid (stopH_walk y3 q (M.reg (pA x)) _ HS.out.1)
  go_wp2_with (go_at_call 28; (with_reducible refine HC.out.mono ?_); rintro e y4 ⟨he, hm, hk⟩; obtain rfl : e = _ := he; have HM4 := Lib.hid (And.intro hm hk); clear hm hk)
  exact bodyPost_ret (v := .nilIface) (by simp [results, Tryd.results18, go_sem]) rfl ⟨rfl, z1, HR.out, HM4.out.1, HS.out.2.trans HM4.out.2 fun _ _ h => h⟩
set_option maxHeartbeats 2000000 in
set_option maxRecDepth 100000 in
theorem adv_halt_p (w : World) (q qm x : Nat) (M : Mac) (R0 R1 : World → Prop) (hm : IsHd w q M) (hh : M.halted = false) (hpc : M.pc < 8192) (hr : M.reg (pA x) < 18446744073709551616) (hx : x < 18446744073709551616) (hp : pOk x = true) (hop : pOp x = 0) (h0 : R0 w.drew)
    (hread : ∀ y, R0 y → Calls Tryd.prog 98 #[.pointer (some ⟨qm, 0, none⟩), .int .u64 M.pc] y fun e w' => e = .returned (.tuple #[.int .u64 x, .nilIface]) ∧ R1 w') (h1 : ∀ y, R1 y → IsHd y q M) :
    Calls Tryd.prog 18 #[.pointer (some ⟨q, 0, none⟩), .iface 72 (.pointer (some ⟨qm, 0, none⟩))] w fun e w' => e = .returned .nilIface ∧ ∃ y, R1 y ∧ IsHd w' q (stopH { M with pc := M.pc + 1 } (M.reg (pA x))) ∧ Kept (fun k => k = q) y w' := by
  have k0 := hm.halted
  have k1 := hm.pc
  rw [hh] at k0
  have t1 : decide ((8192 : Int) ≤ (M.pc : Int)) = false := by simp; omega
  have HZ : Hid (IsHd w.drew q M ∧ R0 w.drew) := Lib.hid ⟨IsTab.drew hm, h0⟩
  have HRD := Lib.hid hread
  have HH1 := Lib.hid h1
  have HPC := Lib.hid hpc
  have HX := Lib.hid (And.intro hx (And.intro hop hp))
  have hpv : Hid (partsV x = .tuple #[.int .i64 (pOp x), .int .i64 (pD x), .int .i64 (pA x), .int .i64 (pB x), .int .i64 (pC x), .int .i64 (pN x), .bool true]) := Lib.hid (if_pos hp)
  have HPW := Lib.hid (fun y : World => hpv.out ▸ parts_walk y x hx)
  rw [hop, show ((0 : Nat) : Int) = 0 from rfl] at HPW
  clear hm hh hpc hread h1 h0 hx hp hop hr
  go_enter Tryd.func18, Tryd.ntmps18
  go_upto_region 6 with (fail)
  clear k0 k1 t1
  refine wp_region_og (fun z : World => IsHd z q M) (.take 0 (.take 1 (.take 2 (.take 3 (.take 4 (.one 5 (.one 6 (.one 7 (.one 8 (.take 9 (.take 10 (.take 11 (.take 12 (.take 13 .done)))))))))))))) (by kernel_rfl) (by kernel_rfl) (HZ.out.1) ?_
  generalize w.drew = z0 at *
  refine og_tk (some 27) (.iface 72 (.pointer (some ⟨qm, 0, none⟩))) rfl rfl (by go_simp) (fun _ _ => by simp [execOp, go_sem]) ?_
  simp only [Act.put, pS]
  refine og_tk (some 28) (.pointer (some ⟨q, 0, none⟩)) rfl rfl (by go_simp) (fun _ _ => by simp [execOp, go_sem]) ?_
  simp only [Act.put, pS]
  refine og_tk (some 29) (.pointer (some ⟨q, 0, none⟩)) rfl rfl (by go_simp) (fun _ _ => by simp [execOp, go_sem]) ?_
  simp only [Act.put, pS]
  refine og_tk (some 30) (.pointer (some ⟨q, 16, none⟩)) rfl rfl (by go_simp) (fun _ _ => by simp [execOp, go_sem]) ?_
  simp only [Act.put, pS]
  refine og_ld (some 31) 32 (.tmp 30) (.pointer (some ⟨q, 16, none⟩)) (.int .u64 M.pc) rfl rfl (by go_simp) rfl rfl (fun y hy => by have h := IsHd.pc hy; simp [Instr.loadAt, go_sem, h, Tryd.underlying32]) ?_
  simp only [Act.put, pS]
  refine og_f rfl (by go_simp) fun K hK => ?_
  go_simp
  refine hK _ _ HZ.out.1 ?_
  clear hK K
  try simp only [List.getElem_toArray, List.getElem_cons_succ, List.getElem_cons_zero, Act.put, pS]
  refine og_f rfl (by go_simp) fun K hK => ?_
  go_simp
  refine hK _ _ HZ.out.1 ?_
  clear hK K
  try simp only [List.getElem_toArray, List.getElem_cons_succ, List.getElem_cons_zero, Act.put, pS]
  refine og_f rfl (by go_simp) fun K hK => ?_
  go_simp
  refine hK _ _ HZ.out.1 ?_
  clear hK K
  try simp only [List.getElem_toArray, List.getElem_cons_succ, List.getElem_cons_zero, Act.put, pS]
  have mr := fun (v : Value) (u : World) => methRead_p v u
  refine og_f rfl (by go_simp) fun K hK => ?_
  go_simp
  refine (HRD.out z0 HZ.out.2).mono ?_
  rintro e z1 ⟨he, hr1⟩
  obtain rfl : e = _ := he
  have HR := Lib.hid hr1
  have HM1 := Lib.hid (HH1.out z1 hr1)
  refine hK _ _ HM1.out ?_
  clear hK K hr1 mr HZ
  try simp only [List.getElem_toArray, List.getElem_cons_succ, List.getElem_cons_zero, Act.put, pS]
  refine og_tk (some 26) (.tuple #[.int .u64 x, .nilIface]) rfl rfl (by go_simp) (fun _ _ => by simp [execOp, go_sem]) ?_
  simp only [Act.put, pS]
  refine og_tk (some 36) (.int .u64 x) rfl rfl (by go_simp) (fun _ _ => by simp [execOp, go_sem]) ?_
  simp only [Act.put, pS]
  refine og_tk (some 37) (.nilIface) rfl rfl (by go_simp) (fun _ _ => by simp [execOp, go_sem]) ?_
  simp only [Act.put, pS]
  refine og_tk (some 5) (.int .u64 x) rfl rfl (by go_simp) (fun _ _ => by simp [execOp, go_sem]) ?_
  simp only [Act.put, pS]
  refine og_tk (some 6) (.nilIface) rfl rfl (by go_simp) (fun _ _ => by simp [execOp, go_sem]) ?_
  simp only [Act.put, pS]
  refine og_done (NoPanic.normal ?_)
  go_upto_region 15 with (go_at_call 29; (with_reducible refine (HPW.out _).mono ?_); rintro e y2 ⟨he, hb⟩; obtain rfl : e = _ := he; have H2 : Hid (IsHd y2 q M ∧ Kept (fun k => k = q) z1 y2) := Lib.hid ⟨HM1.out.below hb, (Kept.ofBelow hb).trans (Kept.refl (fun k => k = q) _) fun _ _ h => h⟩; clear hb HPW)
  clear HM1
  have k16 := H2.out.1.pc
  have f16 := H2.out.1.fz 16
  have HW : Hid (IntKind.u64.wrap ((M.pc : Int) + 1) = ((M.pc + 1 : Nat) : Int)) := Lib.hid (wrap_nn _ (by omega) (by have := HPC.out; omega))
  have HS : Hid (IsHd (y2.setCell ⟨q, 16, none⟩ (.int .u64 (IntKind.u64.wrap ((M.pc : Int) + 1)))) q { M with pc := M.pc + 1 } ∧ Kept (fun k => k = q) z1 (y2.setCell ⟨q, 16, none⟩ (.int .u64 (IntKind.u64.wrap ((M.pc : Int) + 1))))) := Lib.hid ⟨by rw [HW.out]; exact H2.out.1.setPc (M.pc + 1), Vm.kept_set (S := fun k => k = q) H2.out.2 q 16 rfl _⟩
  go_upto_region 17 with (fail)
  clear k16 f16 H2
  generalize y2.setCell ⟨q, 16, none⟩ (.int .u64 (IntKind.u64.wrap ((M.pc : Int) + 1))) = y3 at *
  have ha : (pA x : Int) < 16 := by have := pA_lt x; omega
  have ka := HS.out.1.reg (pA_lt x)
  have HC := Lib.hid (stopH_walk y3 q (M.reg (pA x)) _ HS.out.1)
  go_wp2_with (go_at_call 28; (with_reducible refine HC.out.mono ?_); rintro e y4 ⟨he, hm, hk⟩; obtain rfl : e = _ := he; have HM4 := Lib.hid (And.intro hm hk); clear hm hk)
  exact bodyPost_ret (v := .nilIface) (by simp [results, Tryd.results18, go_sem]) rfl ⟨rfl, z1, HR.out, HM4.out.1, HS.out.2.trans HM4.out.2 fun _ _ h => h⟩
end Os
end Go.Proofs.YtnaamljflcgepaaDoor
namespace Go.Proofs.YtnaamljflcgepaaDoor
open Go.RowKit
set_option linter.unusedVariables false
set_option linter.unusedSimpArgs false
namespace Co
open Kc Mk Vm
end Co
end Go.Proofs.YtnaamljflcgepaaDoor
namespace Go.Proofs.YtnaamljflcgepaaDoor
open Go.RowKit
set_option linter.unusedVariables false
set_option linter.unusedSimpArgs false
namespace Co
open Kc Mk Vm
set_option maxHeartbeats 8000000 in
set_option maxRecDepth 100000 in
def v4 (a b c d : Value) : Nat → Value
  | 0 => a
  | 1 => b
  | 2 => c
  | _ => d
end Co
end Go.Proofs.YtnaamljflcgepaaDoor
namespace Go.Proofs.YtnaamljflcgepaaDoor
open Go.RowKit
set_option linter.unusedVariables false
set_option linter.unusedSimpArgs false
namespace Co
open Kc Mk Vm
theorem rootOf4 (f : Nat → Hx) : und (ext 4 f) 2 0 = rootOf 2 4 f := by
  have e : wrong 2 4 = 0 := by decide
  unfold rootOf; rw [e, if_pos rfl]; rfl
theorem wp_build1 {P : Program} {o : Oper} {a : Act} {w : World} {K : Act → World → Prop} {Q : Exit → Act → World → Prop} (t : TypeId) (x : Operand) (ho : o.op = .buildSlice t 1 #[(0, x)]) (p v : Value) (hx : a.eval x = p) (w' : World) (hl : (Instr.buildSlice t 1 #[(0, p)]).run P w = .ok v w') (h : K (a.put o.dst v) w') : o.wp P a w K Q := by
  unfold Oper.wp execOp
  simp only [ho, List.map_toArray, List.map_cons, List.map_nil, hx]
  simp [hl]
  exact h
end Co
end Go.Proofs.YtnaamljflcgepaaDoor
