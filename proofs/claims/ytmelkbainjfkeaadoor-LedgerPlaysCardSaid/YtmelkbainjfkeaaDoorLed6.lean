/-
  Layer 18: Give. Own work.
-/
import Derived.Test.YtmelkbainjfkeaaDoorLed5
namespace Go.Proofs.YtmelkbainjfkeaaDoor
open Go.RowKit
set_option linter.unusedVariables false
namespace Led
theorem give_twice (b a n : Nat) (p : Int) (l c : Nat) (w : World) (h0 : 0 ≤ p) (h1 : p < 8) (hn : n < l) (hx : w.cell? ⟨b, 8, none⟩ = some (.slice (some ⟨a, 0, none⟩) l c)) (hl : l ≤ 65536)
   (hg : w.cell? ⟨a, n * 2 + 1, none⟩ = some (.bool true)) :
    Calls Tryd.prog 9 #[.pointer (some ⟨b, 0, none⟩), .int .i64 n, .int .i64 p] w fun e w' => e = .returned (.iface 42 (.int .i64 41)) ∧ ∃ n, w' = w.drewN n := by
  go_enter Tryd.func9, Tryd.ntmps9
  go_wp2_with fail
  refine (check_ok b _ _ h0 h1).mono ?_
  rintro e w' ⟨rfl, q, rfl⟩
  have hx2 : (w.drewN q).cell? ⟨b, 8, none⟩ = some (.slice (some ⟨a, 0, none⟩) l c) := hx
  have hg2 : (w.drewN q).cell? ⟨a, n * 2 + 1, none⟩ = some (.bool true) := hg
  go_wp2_with fail
  go_ret
  exact ⟨rfl, _, rfl⟩
end Led
end Go.Proofs.YtmelkbainjfkeaaDoor
