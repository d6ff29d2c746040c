/-
  Layer 11: words as leaves, plain; the nought machine's root and paths. Own work.
-/
import Derived.Test.YtjfpbponjhpdhaaDoorCp
import Derived.Test.YtjfpbponjhpdhaaDoorMc
namespace Go.Proofs.YtjfpbponjhpdhaaDoor
open Go.RowKit
set_option linter.unusedVariables false
set_option linter.unusedSimpArgs false
namespace Co
open Kc Mk Vm
def wb (v j : Nat) : Bt := BitVec.ofNat 8 (Rl.byteOf v j)
theorem byte_lt (v j : Nat) : Rl.byteOf v j < 256 := Nat.mod_lt _ (by decide)
theorem wb_nat (v j : Nat) : (wb v j).toNat = Rl.byteOf v j := by unfold wb; rw [BitVec.toNat_ofNat]; exact Nat.mod_eq_of_lt (byte_lt v j)
theorem ub_wb (v j : Nat) : Rl.ub (Rl.byteOf v j) = bv (wb v j) := by
  show Value.int .u8 ((Rl.byteOf v j : Nat) : Int) = .int .u8 (Bv (wb v j))
  unfold Bv; rw [wb_nat]
/-- A word as a leaf. -/
def lfX (v : Nat) : Hx := fun i => if 24 ≤ i ∧ i < 32 then wb v (i - 24) else 0#8
theorem put_lf (v j : Nat) : Rl.putv (fun _ => bv 0#8) 3 v 8 j = bv (lfX v j) := by
  unfold Rl.putv lfX
  by_cases h : 8 * 3 ≤ j ∧ j < 8 * 3 + 8
  · rw [if_pos h, if_pos (by omega), ub_wb]
  · rw [if_neg h, if_neg (by omega)]
theorem zero_0 : Mk.zero 0 = fun _ => 0#8 := rfl
theorem wb_zero (j : Nat) : wb 0 j = 0#8 := by unfold wb Rl.byteOf; simp
theorem lf_zero : lfX 0 = Mk.zero 0 := by
  rw [zero_0]
  funext i
  unfold lfX
  split
  · exact wb_zero _
  · rfl
/-- A machine's leaves. -/
def mlf (M : Mac) : Nat → Hx := fun k => lfX (M.mem k)
def mg (M : Mac) : Nat → Hx := ext 8192 (mlf M)
def mroot (M : Mac) : Hx := und (mg M) 13 0
theorem mg_m0 (M : Mac) (h : ∀ i, i < 8192 → M.mem i = 0) : mg M = fun _ => Mk.zero 0 := by
  funext k
  unfold mg ext mlf
  split
  · next hk => rw [h k hk, lf_zero]
  · rfl
theorem und_noughts (h k : Nat) : und (fun _ => Mk.zero 0) h k = Mk.zero h := und_out (n := 0) (fun _ _ => rfl) h k (Nat.zero_le _)
theorem sib_noughts (i h : Nat) : sib (fun _ => Mk.zero 0) i h = Mk.zero h := by unfold sib lev; exact und_noughts _ _
theorem root_m0 (M : Mac) (h : ∀ i, i < 8192 → M.mem i = 0) : mroot M = Mk.zero 13 := by unfold mroot; rw [mg_m0 M h, und_noughts]
theorem fold_m0 (M : Mac) (h : ∀ i, i < 8192 → M.mem i = 0) : fold 5 (lfX 0) (sib (mg M) 5) 13 = Mk.zero 13 := by
  have e := fold_own (g := mg M) (i := 5) (d := 13) (p := sib (mg M) 5) (by decide) (fun _ _ => rfl)
  rw [mg_m0 M h, und_noughts] at e
  rw [mg_m0 M h, lf_zero]
  exact e
theorem wrong_mem (n : Nat) (h : n ≤ 8192) : wrong 13 n = 0 := by
  have e : (2 : Int) ^ Int.toNat 13 = 8192 := by decide
  unfold wrong
  rw [if_neg (by decide), e, if_neg (by omega)]
theorem rootOf_mem (n : Nat) (h : n ≤ 8192) (f : Nat → Hx) : rootOf 13 n f = und (ext n f) 13 0 := by
  unfold rootOf; rw [wrong_mem n h, if_pos rfl]; rfl
theorem wrongP_mem (n : Nat) (h : n ≤ 8192) (i : Nat) (hi : i < 8192) : wrongP 13 n i = 0 := by
  have e : (2 : Int) ^ Int.toNat 13 = 8192 := by decide
  unfold wrongP
  rw [wrong_mem n h, if_neg (by decide), e, if_neg (by omega)]
theorem pathLen_mem (n : Nat) (h : n ≤ 8192) (i : Nat) (hi : i < 8192) : pathLen 13 n i = 13 := by
  unfold pathLen; rw [wrongP_mem n h i hi, if_pos rfl]; rfl
end Co
end Go.Proofs.YtjfpbponjhpdhaaDoor
