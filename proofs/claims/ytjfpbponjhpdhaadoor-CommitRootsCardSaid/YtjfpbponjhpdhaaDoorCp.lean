/-
  wordbytes.Put in layer 11's seat (XRec's first part). Own work.
-/
import Derived.Test.YtjfpbponjhpdhaaDoorCm
import Derived.Deep.WholeRow
import Derived.Laws.Tables
import Derived.Laws.Rows
import Derived.StillTailTactics
namespace Go.Proofs.YtjfpbponjhpdhaaDoor
open Go.RowKit
set_option linter.unusedVariables false
set_option linter.unusedSimpArgs false
namespace Rl
open Kc (tab IsTab)
/-- A word's byte. -/
def byteOf (v j : Nat) : Nat := v / 2 ^ (56 - 8 * j) % 256
def ub (z : Nat) : Value := .int .u8 z
/-- Words laid over a row of bytes. -/
def putv (g : Nat → Value) (p v m : Nat) : Nat → Value := fun j => if 8 * p ≤ j ∧ j < 8 * p + m then ub (byteOf v (j - 8 * p)) else g j
theorem putv_next (g : Nat → Value) (p v m : Nat) : Kc.updv (putv g p v m) (8 * p + m) (ub (byteOf v m)) = putv g p v (m + 1) := by
  funext j
  unfold Kc.updv putv
  by_cases h : j = 8 * p + m
  · subst h
    rw [if_pos rfl, if_pos ⟨by omega, by omega⟩, show 8 * p + m - 8 * p = m by omega]
  · rw [if_neg h]
    by_cases h2 : 8 * p ≤ j ∧ j < 8 * p + m
    · rw [if_pos h2, if_pos ⟨h2.1, by omega⟩]
    · rw [if_neg h2, if_neg (by omega)]
theorem putv_zero (g : Nat → Value) (p v : Nat) : putv g p v 0 = g := by
  funext j; unfold putv; rw [if_neg (by omega)]
/-- What Put's loop keeps. -/
structure Put (w : World) (q T n : Nat) (g : Nat → Value) (y : World) : Prop where
  row : IsTab y q T n g
  kept : Kept (fun b => b = q) w y
theorem Put.set {w y : World} {q T n : Nat} {g : Nat → Value} (h : Put w q T n g y) (i : Nat) (x : Value) : Put w q T n (Kc.updv g i x) (y.setCell ⟨q, i, none⟩ x) :=
  ⟨h.row.set i x, h.kept.setCell (.inl rfl) _⟩
set_option maxHeartbeats 2000000 in
set_option maxRecDepth 100000 in
theorem put_walk (w : World) (q T N c : Nat) (g : Nat → Value) (p v : Nat) (h : IsTab w q T N g) (hp : 8 * p + 8 ≤ N) (hN : N ≤ 64) (hv : v < 18446744073709551616) :
    Calls Tryd.prog 49 #[.slice (some ⟨q, 0, none⟩) N c, .int .i64 p, .int .u64 v] w fun e w' => e = .returned (.tuple #[]) ∧ Put w q T N (putv g p v 8) w' := by
  have HP : Hid (Put w q T N (putv g p v 0) w) := Lib.hid ⟨by rw [putv_zero]; exact h, Kept.refl _ _⟩
  have HN := Lib.hid (And.intro hp hN)
  have HV := Lib.hid hv
  have e1 : wrap64 (8 * (p : Int)) = ((8 * p : Nat) : Int) := by unfold wrap64; omega
  have HE := Lib.hid e1
  clear h hp hN hv
  go_enter Tryd.func49, Tryd.ntmps49
  go_wp2_with (fail)
  go_loopw [7] (fun i y => ∃ j : Nat, i = .int .i64 j ∧ Hid (j ≤ 8 ∧ Put w q T N (putv g p v j) y)) (fun i _ => 8 - (intOf i).toNat)
  case atStart => exact ⟨0, rfl, Lib.hid ⟨Nat.zero_le _, HP.out⟩⟩
  case round =>
    obtain ⟨j, rfl, hp⟩ := hrel
    have HR := Lib.hid hp.out
    clear hp HP e1
    by_cases hlt : (j : Int) < 8
    · have e1 := HE.out
      have x1 := HR.out.2.row.cell (8 * p + j) (by have := HN.out; omega)
      have x2 := HR.out.2.row.fz (8 * p + j)
      have HJ := Lib.hid (And.intro (show j < 8 by omega) (show wrap64 ((j : Int) + 1) = ((j + 1 : Nat) : Int) by unfold wrap64; omega))
      obtain ⟨P, hP⟩ : ∃ P, 8 * p = P := ⟨_, rfl⟩
      obtain ⟨J, hJ⟩ : ∃ J, P + j = J := ⟨_, rfl⟩
      rw [hP] at e1 x1 x2
      rw [hJ] at x1 x2
      have e2 : wrap64 ((P : Int) + j) = (J : Int) := by have := HN.out; unfold wrap64; omega
      have e3 : wrap64 (8 * (j : Int)) = ((8 * j : Nat) : Int) := by unfold wrap64; omega
      have e4 : wrap64 (56 - ((8 * j : Nat) : Int)) = ((56 - 8 * j : Nat) : Int) := by unfold wrap64; omega
      have e5 : (J : Int) < N := by have := HN.out; omega
      go_wp2_with (fail)
      refine ⟨⟨j + 1, by simp, Lib.hid ⟨HJ.out.1, ?_⟩⟩, by simp [intOf]; omega⟩
      have h9 := HR.out.2.set (8 * p + j) (ub (byteOf v j))
      rw [putv_next] at h9
      rw [hP, hJ] at h9
      have e9 : ub (byteOf v j) = .int .u8 ((v : Int) / 2 ^ (56 - 8 * j) % 256) := by unfold ub byteOf; push_cast; rfl
      rw [← e9]; exact h9
    · obtain rfl : j = 8 := by have := HR.out.1; omega
      go_wp2_with (fail)
      exact bodyPost_end (v := .tuple #[]) (by simp [results, Tryd.results49, go_sem]) rfl ⟨rfl, HR.out.2⟩
end Rl
end Go.Proofs.YtjfpbponjhpdhaaDoor
