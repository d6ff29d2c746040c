/-
  Layer 18: Lock. Own work.
-/
import Derived.Test.YtmelkbainjfkeaaDoorLed7
namespace Go.Proofs.YtmelkbainjfkeaaDoor
open Go.RowKit
set_option linter.unusedVariables false
namespace Led
set_option maxRecDepth 100000 in
theorem lock_full (b : Nat) (p v x : Int) (A : Option Addr) (l c : Nat) (w : World) (h0 : 0 ≤ p) (h1 : p < 8) (v0 : 0 ≤ v) (xv : v ≤ x) (x1 : x ≤ 281474976710656) (hl : (65536 : Int) ≤ (l : Int))
    (hx : w.cell? ⟨b, p.toNat, none⟩ = some (.int .u64 x)) (h8 : w.cell? ⟨b, 8, none⟩ = some (.slice A l c)) :
    Calls Tryd.prog 8 #[.pointer (some ⟨b, 0, none⟩), .int .i64 p, .int .u64 v] w fun e w' => e = .returned (.tuple #[.int .i64 0, .iface 42 (.int .i64 5)]) ∧ ∃ n, w' = w.drewN n := by
  go_enter Tryd.func8, Tryd.ntmps8
  go_wp2_with fail
  refine (check_ok b _ _ h0 h1).mono ?_
  rintro e w' ⟨rfl, q, rfl⟩
  have hd : decide ((65536 : Int) ≤ (l : Int)) = true := by simpa using hl
  clear hl
  have hx2 : (w.drewN q).cell? ⟨b, p.toNat, none⟩ = some (.int .u64 x) := hx
  have h82 : (w.drewN q).cell? ⟨b, 8, none⟩ = some (.slice A l c) := h8
  go_wp2_with fail
  go_ret2
  exact ⟨rfl, _, rfl⟩
end Led
end Go.Proofs.YtmelkbainjfkeaaDoor
