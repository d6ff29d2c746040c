/-
  Layer 18: the ledger's methods on a ledger in memory (cells 0 to 7 balances, 8 bonds, 9 paid in, 10 paid out, 11 locked). Own work.
-/
import Derived.Test.YtmelkbainjfkeaaDoorLed
import Derived.Outline
import Derived.BigQuiet
import Derived.Deep.QuietTactic
import Derived.Lib.Hide
namespace Go.Proofs.YtmelkbainjfkeaaDoor
open Go.RowKit
set_option linter.unusedVariables false
namespace Led
theorem check_ok (b : Nat) (p : Int) (w : World) (h0 : 0 ≤ p) (h1 : p < 8) :
    Calls Tryd.prog 18 #[.pointer (some ⟨b, 0, none⟩), .int .i64 p] w fun e w' => e = .returned .nilIface ∧ ∃ n, w' = w.drewN n := by
  go_enter Tryd.func18, Tryd.ntmps18
  go_wp2_with fail
  go_ret
  exact ⟨rfl, by first | exact ⟨0, rfl⟩ | exact ⟨_, rfl⟩⟩
theorem check_bad (b : Nat) (p : Int) (w : World) (h : p < 0 ∨ 8 ≤ p) :
    Calls Tryd.prog 18 #[.pointer (some ⟨b, 0, none⟩), .int .i64 p] w fun e w' => e = .returned (.iface 42 (.int .i64 2)) ∧ ∃ n, w' = w.drewN n := by
  rcases h with h | h
  · go_enter Tryd.func18, Tryd.ntmps18
    go_wp2_with fail
    go_ret
    exact ⟨rfl, by first | exact ⟨0, rfl⟩ | exact ⟨_, rfl⟩⟩
  · go_enter Tryd.func18, Tryd.ntmps18
    go_wp2_with fail
    go_ret
    exact ⟨rfl, by first | exact ⟨0, rfl⟩ | exact ⟨_, rfl⟩⟩
theorem new_is (w : World) :
    Calls Tryd.prog 4 #[] w fun e w' => e = .returned (.pointer (some ⟨w.heap.size, 0, none⟩)) ∧ ∃ t, w' = w.alloc (.cells #[.int .u64 0, .int .u64 0, .int .u64 0, .int .u64 0, .int .u64 0, .int .u64 0, .int .u64 0, .int .u64 0, .slice none 0 0, .int .u64 0, .int .u64 0, .int .u64 0] t) := by
  go_enter Tryd.func4, Tryd.ntmps4
  go_wp2_with fail
  go_ret
  exact ⟨rfl, _, rfl⟩
theorem balance_ok (b : Nat) (p v : Int) (w : World) (h0 : 0 ≤ p) (h1 : p < 8) (hv : w.cell? ⟨b, p.toNat, none⟩ = some (.int .u64 v)) :
    Calls Tryd.prog 10 #[.pointer (some ⟨b, 0, none⟩), .int .i64 p] w fun e w' => e = .returned (.tuple #[.int .u64 v, .nilIface]) ∧ ∃ n, w' = w.drewN n := by
  go_enter Tryd.func10, Tryd.ntmps10
  go_wp2_with fail
  refine (check_ok b _ _ h0 h1).mono ?_
  rintro e w' ⟨rfl, q, rfl⟩
  have hv2 : (w.drewN q).cell? ⟨b, p.toNat, none⟩ = some (.int .u64 v) := hv
  go_wp2_with fail
  go_ret2
  exact ⟨rfl, _, rfl⟩
theorem balance_bad (b : Nat) (p : Int) (w : World) (h : p < 0 ∨ 8 ≤ p) :
    Calls Tryd.prog 10 #[.pointer (some ⟨b, 0, none⟩), .int .i64 p] w fun e w' => e = .returned (.tuple #[.int .u64 0, .iface 42 (.int .i64 2)]) ∧ ∃ n, w' = w.drewN n := by
  go_enter Tryd.func10, Tryd.ntmps10
  go_wp2_with fail
  refine (check_bad b _ _ h).mono ?_
  rintro e w' ⟨rfl, q, rfl⟩
  go_wp2_with fail
  go_ret2
  exact ⟨rfl, _, rfl⟩
theorem locked_ok (b : Nat) (v : Int) (w : World) (hv : w.cell? ⟨b, 11, none⟩ = some (.int .u64 v)) :
    Calls Tryd.prog 15 #[.pointer (some ⟨b, 0, none⟩)] w fun e w' => e = .returned (.int .u64 v) ∧ ∃ n, w' = w.drewN n := by
  go_enter Tryd.func15, Tryd.ntmps15
  go_wp2_with fail
  go_ret
  exact ⟨rfl, by first | exact ⟨0, rfl⟩ | exact ⟨_, rfl⟩⟩
theorem flows_ok (b : Nat) (u v : Int) (w : World) (hu : w.cell? ⟨b, 9, none⟩ = some (.int .u64 u)) (hv : w.cell? ⟨b, 10, none⟩ = some (.int .u64 v)) :
    Calls Tryd.prog 16 #[.pointer (some ⟨b, 0, none⟩)] w fun e w' => e = .returned (.tuple #[.int .u64 u, .int .u64 v]) ∧ ∃ n, w' = w.drewN n := by
  go_enter Tryd.func16, Tryd.ntmps16
  go_wp2_with fail
  go_quiet (fail)
  go_wp2_with fail
  go_ret2
  exact ⟨rfl, by first | exact ⟨0, rfl⟩ | exact ⟨_, rfl⟩⟩
theorem payIn_ok (b : Nat) (p v s x : Int) (w : World) (h0 : 0 ≤ p) (h1 : p < 8) (v0 : 0 ≤ v) (s0 : 0 ≤ s) (sv : s + v ≤ 281474976710656) (x0 : 0 ≤ x) (xs : x ≤ s)
    (hs : w.cell? ⟨b, 9, none⟩ = some (.int .u64 s)) (hf : ∀ o, w.frozen? ⟨b, o, none⟩ = false) (hx : w.cell? ⟨b, p.toNat, none⟩ = some (.int .u64 x)) :
    Calls Tryd.prog 6 #[.pointer (some ⟨b, 0, none⟩), .int .i64 p, .int .u64 v] w fun e w' => e = .returned .nilIface ∧ ∃ n, w' = ((w.setCell ⟨b, 9, none⟩ (.int .u64 (s + v))).setCell ⟨b, p.toNat, none⟩ (.int .u64 (x + v))).drewN n := by
  go_enter Tryd.func6, Tryd.ntmps6
  go_wp2_with fail
  refine (check_ok b _ _ h0 h1).mono ?_
  rintro e w' ⟨rfl, q, rfl⟩
  have hf9 : (w.drewN q).frozen? ⟨b, 9, none⟩ = false := hf 9
  have hfp : ((w.drewN q).setCell ⟨b, 9, none⟩ (.int .u64 (s + v))).frozen? ⟨b, p.toNat, none⟩ = false := by
    simpa using hf p.toNat
  have hs2 : (w.drewN q).cell? ⟨b, 9, none⟩ = some (.int .u64 s) := hs
  have hx2 : (w.drewN q).cell? ⟨b, p.toNat, none⟩ = some (.int .u64 x) := hx
  have hx3 : ((w.drewN q).setCell ⟨b, 9, none⟩ (.int .u64 (s + v))).cell? ⟨b, p.toNat, none⟩ = some (.int .u64 x) := by
    rw [World.cell?_setCell_other _ _ _ _ (by simp <;> omega)]; exact hx
  go_wp2_with fail
  go_region
  go_wp2_with fail
  go_ret
  exact ⟨rfl, q + 1, by simp [World.drewN, World.drew, World.setCell] <;> rfl⟩
end Led
end Go.Proofs.YtmelkbainjfkeaaDoor
