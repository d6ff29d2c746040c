/- Merged. Own work. -/
import Derived.Test.YtdmffnjbholkkaaDoorZq
import Derived.Test.YtdmffnjbholkkaaDoorYo
import Derived.Deep.WholeRow
import Derived.Laws.Tables
import Derived.Laws.Rows
import Derived.StillTailTactics
import Derived.Laws.Bits64b
namespace Go.Proofs.YtdmffnjbholkkaaDoor
open Go.ChangeShapes Go.WideShapes Go.Deep Go.RowKit
set_option linter.unusedVariables false
set_option linter.unusedSimpArgs false
namespace Rl
open Kc (tab IsTab)
/-- A word's byte. -/
def byteOf (v j : Nat) : Nat := v / 2 ^ (56 - 8 * j) % 256
def ub (z : Nat) : Value := .int .u8 z
/-- Words laid over a row of bytes. -/
def putv (g : Nat → Value) (p v m : Nat) : Nat → Value := fun j => if 8 * p ≤ j ∧ j < 8 * p + m then ub (byteOf v (j - 8 * p)) else g j
theorem putv_next (g : Nat → Value) (p v m : Nat) : Kc.updv (putv g p v m) (8 * p + m) (ub (byteOf v m)) = putv g p v (m + 1) := by
  funext j
  unfold Kc.updv putv
  by_cases h : j = 8 * p + m
  · subst h
    rw [if_pos rfl, if_pos ⟨by omega, by omega⟩, show 8 * p + m - 8 * p = m by omega]
  · rw [if_neg h]
    by_cases h2 : 8 * p ≤ j ∧ j < 8 * p + m
    · rw [if_pos h2, if_pos ⟨h2.1, by omega⟩]
    · rw [if_neg h2, if_neg (by omega)]
theorem putv_zero (g : Nat → Value) (p v : Nat) : putv g p v 0 = g := by
  funext j; unfold putv; rw [if_neg (by omega)]
/-- What Put's loop keeps. -/
structure Put (w : World) (q T n : Nat) (g : Nat → Value) (y : World) : Prop where
  row : IsTab y q T n g
  kept : Kept (fun b => b = q) w y
theorem Put.set {w y : World} {q T n : Nat} {g : Nat → Value} (h : Put w q T n g y) (i : Nat) (x : Value) : Put w q T n (Kc.updv g i x) (y.setCell ⟨q, i, none⟩ x) :=
  ⟨h.row.set i x, h.kept.setCell (.inl rfl) _⟩
set_option maxHeartbeats 2000000 in
set_option maxRecDepth 100000 in
theorem put_walk (w : World) (q T N c : Nat) (g : Nat → Value) (p v : Nat) (h : IsTab w q T N g) (hp : 8 * p + 8 ≤ N) (hN : N ≤ 64) (hv : v < 18446744073709551616) :
    Calls Tryd.prog 94 #[.slice (some ⟨q, 0, none⟩) N c, .int .i64 p, .int .u64 v] w fun e w' => e = .returned (.tuple #[]) ∧ Put w q T N (putv g p v 8) w' := by
  have HP : Hid (Put w q T N (putv g p v 0) w) := Lib.hid ⟨by rw [putv_zero]; exact h, Kept.refl _ _⟩
  have HN := Lib.hid (And.intro hp hN)
  have HV := Lib.hid hv
  have e1 : wrap64 (8 * (p : Int)) = ((8 * p : Nat) : Int) := by unfold wrap64; omega
  have HE := Lib.hid e1
  clear h hp hN hv
  go_enter Tryd.func94, Tryd.ntmps94
  go_wp2_with (fail)
  go_loopw [7] (fun i y => ∃ j : Nat, i = .int .i64 j ∧ Hid (j ≤ 8 ∧ Put w q T N (putv g p v j) y)) (fun i _ => 8 - (intOf i).toNat)
  case atStart => exact ⟨0, rfl, Lib.hid ⟨Nat.zero_le _, HP.out⟩⟩
  case round =>
    obtain ⟨j, rfl, hp⟩ := hrel
    have HR := Lib.hid hp.out
    clear hp HP e1
    by_cases hlt : (j : Int) < 8
    · have e1 := HE.out
      have x1 := HR.out.2.row.cell (8 * p + j) (by have := HN.out; omega)
      have x2 := HR.out.2.row.fz (8 * p + j)
      have HJ := Lib.hid (And.intro (show j < 8 by omega) (show wrap64 ((j : Int) + 1) = ((j + 1 : Nat) : Int) by unfold wrap64; omega))
      obtain ⟨P, hP⟩ : ∃ P, 8 * p = P := ⟨_, rfl⟩
      obtain ⟨J, hJ⟩ : ∃ J, P + j = J := ⟨_, rfl⟩
      rw [hP] at e1 x1 x2
      rw [hJ] at x1 x2
      have e2 : wrap64 ((P : Int) + j) = (J : Int) := by have := HN.out; unfold wrap64; omega
      have e3 : wrap64 (8 * (j : Int)) = ((8 * j : Nat) : Int) := by unfold wrap64; omega
      have e4 : wrap64 (56 - ((8 * j : Nat) : Int)) = ((56 - 8 * j : Nat) : Int) := by unfold wrap64; omega
      have e5 : (J : Int) < N := by have := HN.out; omega
      go_wp2_with (fail)
      refine ⟨⟨j + 1, by simp, Lib.hid ⟨HJ.out.1, ?_⟩⟩, by simp [intOf]; omega⟩
      have h9 := HR.out.2.set (8 * p + j) (ub (byteOf v j))
      rw [putv_next] at h9
      rw [hP, hJ] at h9
      have e9 : ub (byteOf v j) = .int .u8 ((v : Int) / 2 ^ (56 - 8 * j) % 256) := by unfold ub byteOf; push_cast; rfl
      rw [← e9]; exact h9
    · obtain rfl : j = 8 := by have := HR.out.1; omega
      go_wp2_with (fail)
      exact bodyPost_end (v := .tuple #[]) (by simp [results, Tryd.results94, go_sem]) rfl ⟨rfl, HR.out.2⟩
end Rl
end Go.Proofs.YtdmffnjbholkkaaDoor
namespace Go.Proofs.YtdmffnjbholkkaaDoor
open Go.RowKit
set_option linter.unusedVariables false
set_option linter.unusedSimpArgs false
namespace Rl
/-- Bytes as a number, the highest first. -/
def gv (f : Nat → Nat) : Nat → Nat
  | 0 => 0
  | m + 1 => gv f m * 256 + f m
theorem gv_lt {f : Nat → Nat} (hf : ∀ j, f j < 256) : ∀ m, gv f m < 256 ^ m
  | 0 => by simp [gv]
  | m + 1 => by
    have h1 := gv_lt hf m
    have h2 := hf m
    have e : 256 ^ (m + 1) = 256 ^ m * 256 := by rw [Nat.pow_succ]
    unfold gv
    omega
theorem or_w (v x : Nat) (hv : v * 256 < 18446744073709551616) (hx : x < 256) : bits BinOp.or IntKind.u64 (IntKind.u64.wrap ((v : Int) * 256)) (IntKind.u64.wrap (x : Int)) = ((v * 256 + x : Nat) : Int) := by
  have e1 : IntKind.u64.wrap ((v : Int) * 256) = ((v * 256 : Nat) : Int) := by rw [IntWalk.u64_in _ (by omega)]; omega
  have e2 : IntKind.u64.wrap (x : Int) = ((x : Nat) : Int) := by rw [IntWalk.u64_in _ (by omega)]
  rw [e1, e2, bits_or_u64_nat _ _ hv (by omega)]
  have := Nat.two_pow_add_eq_or_of_lt (i := 8) (b := x) (by omega) v
  rw [show 2 ^ 8 * v = v * 256 from by omega] at this
  rw [this]
set_option maxHeartbeats 2000000 in
set_option maxRecDepth 100000 in
theorem getw_walk (w : World) (q N c : Nat) (f : Nat → Nat) (p : Nat) (h : ∀ j, j < N → w.cell? ⟨q, j, none⟩ = some (.int .u8 (f j))) (hf : ∀ j, f j < 256) (hp : 8 * p + 8 ≤ N) (hN : N ≤ 64) :
    Calls Tryd.prog 96 #[.slice (some ⟨q, 0, none⟩) N c, .int .i64 p] w fun e w' => e = .returned (.int .u64 (gv (fun j => f (8 * p + j)) 8)) ∧ w = w' := by
  have HN := Lib.hid (And.intro hp hN)
  have HC := Lib.hid h
  have HF := Lib.hid hf
  have e1 : wrap64 (8 * (p : Int)) = ((8 * p : Nat) : Int) := by unfold wrap64; omega
  have HE := Lib.hid e1
  clear h hp hN hf
  go_enter Tryd.func96, Tryd.ntmps96
  go_wp2_with (fail)
  go_loopw [5, 7] (fun v i y => ∃ j : Nat, i = .int .i64 j ∧ v = .int .u64 (gv (fun j => f (8 * p + j)) j) ∧ Hid (j ≤ 8 ∧ y = w)) (fun v i _ => 8 - (intOf i).toNat)
  case atStart => exact ⟨0, rfl, rfl, Lib.hid ⟨Nat.zero_le _, rfl⟩⟩
  case round =>
    obtain ⟨j, rfl, rfl, hp⟩ := hrel
    have HR := Lib.hid hp.out
    clear hp e1
    by_cases hlt : (j : Int) < 8
    · have e1 := HE.out
      have x1 := HR.out.2 ▸ HC.out (8 * p + j) (by have := HN.out; omega)
      have HJ := Lib.hid (And.intro (show j < 8 by omega) (show wrap64 ((j : Int) + 1) = ((j + 1 : Nat) : Int) by unfold wrap64; omega))
      have HG := Lib.hid (show gv (fun j => f (8 * p + j)) (j + 1) = gv (fun j => f (8 * p + j)) j * 256 + f (8 * p + j) from rfl)
      obtain ⟨P, hP⟩ : ∃ P, 8 * p = P := ⟨_, rfl⟩
      obtain ⟨J, hJ⟩ : ∃ J, P + j = J := ⟨_, rfl⟩
      rw [hP] at e1 x1
      rw [hJ] at x1
      have e2 : wrap64 ((P : Int) + j) = (J : Int) := by have := HN.out; unfold wrap64; omega
      have e5 : (J : Int) < N := by have := HN.out; omega
      go_wp2_with (fail)
      have hg := gv_lt (f := fun j => f (8 * p + j)) (fun k => HF.out (8 * p + k)) j
      have hfj := HF.out J
      have hv : gv (fun j => f (P + j)) j * 256 < 18446744073709551616 := by
        rw [hP] at hg
        have hj := HJ.out.1
        have : 256 ^ j ≤ 256 ^ 7 := Nat.pow_le_pow_right (by decide) (by omega)
        have e7 : 256 ^ 7 = 72057594037927936 := by decide
        have : gv (fun j => f (P + j)) j < 72057594037927936 := by omega
        omega
      have hgj := HG.out
      rw [hP, hJ] at hgj
      refine ⟨⟨j + 1, by simp, ?_, Lib.hid ⟨HJ.out.1, HR.out.2⟩⟩, by simp [intOf]; omega⟩
      rw [hP, hgj, or_w _ _ hv hfj]
    · obtain rfl : j = 8 := by have := HR.out.1; omega
      go_wp2_with (fail)
      exact bodyPost_ret (v := .int .u64 (gv (fun j => f (8 * p + j)) 8)) (by simp [results, Tryd.results96, go_sem]) rfl ⟨rfl, HR.out.2.symm⟩
end Rl
end Go.Proofs.YtdmffnjbholkkaaDoor
