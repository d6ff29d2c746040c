/-
  Layer 18: PayOut done. Own work.
-/
import Derived.Test.YtmelkbainjfkeaaDoorLed3
namespace Go.Proofs.YtmelkbainjfkeaaDoor
open Go.RowKit
set_option linter.unusedVariables false
namespace Led
theorem payOut_ok (b : Nat) (p v s x : Int) (w : World) (h0 : 0 ≤ p) (h1 : p < 8) (v0 : 0 ≤ v) (s0 : 0 ≤ s) (xv : v ≤ x) (sv : s + x ≤ 281474976710656)
    (hf : ∀ o, w.frozen? ⟨b, o, none⟩ = false) (hs : w.cell? ⟨b, 10, none⟩ = some (.int .u64 s)) (hx : w.cell? ⟨b, p.toNat, none⟩ = some (.int .u64 x)) :
    Calls Tryd.prog 7 #[.pointer (some ⟨b, 0, none⟩), .int .i64 p, .int .u64 v] w fun e w' => e = .returned .nilIface ∧ ∃ n, w' = ((w.setCell ⟨b, p.toNat, none⟩ (.int .u64 (x - v))).setCell ⟨b, 10, none⟩ (.int .u64 (s + v))).drewN n := by
  go_enter Tryd.func7, Tryd.ntmps7
  go_wp2_with fail
  refine (check_ok b _ _ h0 h1).mono ?_
  rintro e w' ⟨rfl, q, rfl⟩
  have hfp : (w.drewN q).frozen? ⟨b, p.toNat, none⟩ = false := hf p.toNat
  have hx2 : (w.drewN q).cell? ⟨b, p.toNat, none⟩ = some (.int .u64 x) := hx
  go_wp2_with fail
  go_region
  have hs3 : ((w.drewN q).setCell ⟨b, p.toNat, none⟩ (.int .u64 (x - v))).cell? ⟨b, 10, none⟩ = some (.int .u64 s) := by
    rw [World.cell?_setCell_other _ _ _ _ (by simp <;> omega)]; exact hs
  have hf9 : ((w.drewN q).setCell ⟨b, p.toNat, none⟩ (.int .u64 (x - v))).frozen? ⟨b, 10, none⟩ = false := by
    simpa using hf 10
  go_wp2_with fail
  go_ret
  exact ⟨rfl, q + 1, by simp [World.drewN, World.setCell] <;> rfl⟩
end Led
end Go.Proofs.YtmelkbainjfkeaaDoor
