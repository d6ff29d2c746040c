/-
  Layer 18: Give of a bond that there is not. Own work.
-/
import Derived.Test.YtmelkbainjfkeaaDoorLed4
namespace Go.Proofs.YtmelkbainjfkeaaDoor
open Go.RowKit
set_option linter.unusedVariables false
namespace Led
theorem give_none (b : Nat) (n p : Int) (A : Option Addr) (l c : Nat) (w : World) (h0 : 0 ≤ p) (h1 : p < 8) (h : n < 0 ∨ l ≤ n) (hx : w.cell? ⟨b, 8, none⟩ = some (.slice A l c)) :
    Calls Tryd.prog 9 #[.pointer (some ⟨b, 0, none⟩), .int .i64 n, .int .i64 p] w fun e w' => e = .returned (.iface 42 (.int .i64 4)) ∧ ∃ n, w' = w.drewN n := by
  rcases h with h | h
  · go_enter Tryd.func9, Tryd.ntmps9
    go_wp2_with fail
    refine (check_ok b _ _ h0 h1).mono ?_
    rintro e w' ⟨rfl, q, rfl⟩
    have hx2 : (w.drewN q).cell? ⟨b, 8, none⟩ = some (.slice A l c) := hx
    go_wp2_with fail
    go_ret
    exact ⟨rfl, _, rfl⟩
  · go_enter Tryd.func9, Tryd.ntmps9
    go_wp2_with fail
    refine (check_ok b _ _ h0 h1).mono ?_
    rintro e w' ⟨rfl, q, rfl⟩
    have hx2 : (w.drewN q).cell? ⟨b, 8, none⟩ = some (.slice A l c) := hx
    go_wp2_with fail
    go_ret
    exact ⟨rfl, _, rfl⟩
end Led
end Go.Proofs.YtmelkbainjfkeaaDoor
