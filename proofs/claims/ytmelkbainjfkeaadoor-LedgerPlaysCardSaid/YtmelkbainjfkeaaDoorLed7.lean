/-
  Layer 18: Give done. Own work.
-/
import Derived.Test.YtmelkbainjfkeaaDoorLed6
namespace Go.Proofs.YtmelkbainjfkeaaDoor
open Go.RowKit
set_option linter.unusedVariables false
namespace Led
theorem give_ok (b a n : Nat) (p v k x : Int) (l c : Nat) (w : World) (hab : a ≠ b) (h0 : 0 ≤ p) (h1 : p < 8) (hn : n < l) (hx : w.cell? ⟨b, 8, none⟩ = some (.slice (some ⟨a, 0, none⟩) l c)) (hl : l ≤ 65536)
   (v0 : 0 ≤ v) (vk : v ≤ k) (x0 : 0 ≤ x) (xk : x + k ≤ 281474976710656) (hfa : ∀ o, w.frozen? ⟨a, o, none⟩ = false) (hfb : ∀ o, w.frozen? ⟨b, o, none⟩ = false)
   (hg : w.cell? ⟨a, n * 2 + 1, none⟩ = some (.bool false)) (hv : w.cell? ⟨a, n * 2, none⟩ = some (.int .u64 v)) (hk : w.cell? ⟨b, 11, none⟩ = some (.int .u64 k)) (hp : w.cell? ⟨b, p.toNat, none⟩ = some (.int .u64 x)) :
    Calls Tryd.prog 9 #[.pointer (some ⟨b, 0, none⟩), .int .i64 n, .int .i64 p] w fun e w' => e = .returned .nilIface ∧
      ∃ m, w' = (((w.setCell ⟨a, n * 2 + 1, none⟩ (.bool true)).setCell ⟨b, 11, none⟩ (.int .u64 (k - v))).setCell ⟨b, p.toNat, none⟩ (.int .u64 (x + v))).drewN m := by
  go_enter Tryd.func9, Tryd.ntmps9
  go_wp2_with fail
  refine (check_ok b _ _ h0 h1).mono ?_
  rintro e w' ⟨rfl, q, rfl⟩
  have hx2 : (w.drewN q).cell? ⟨b, 8, none⟩ = some (.slice (some ⟨a, 0, none⟩) l c) := hx
  have hg2 : (w.drewN q).cell? ⟨a, n * 2 + 1, none⟩ = some (.bool false) := hg
  have hf2 : (w.drewN q).frozen? ⟨a, n * 2 + 1, none⟩ = false := hfa _
  go_wp2_with fail
  have e8 : ((w.drewN q).setCell ⟨a, n * 2 + 1, none⟩ (.bool true)).cell? ⟨b, 8, none⟩ = some (.slice (some ⟨a, 0, none⟩) l c) := by
    rw [World.cell?_setCell_other _ _ _ _ (by simp <;> omega)]; exact hx
  have e11 : ((w.drewN q).setCell ⟨a, n * 2 + 1, none⟩ (.bool true)).cell? ⟨b, 11, none⟩ = some (.int .u64 k) := by
    rw [World.cell?_setCell_other _ _ _ _ (by simp <;> omega)]; exact hk
  have ev : ((w.drewN q).setCell ⟨a, n * 2 + 1, none⟩ (.bool true)).cell? ⟨a, n * 2, none⟩ = some (.int .u64 v) := by
    rw [World.cell?_setCell_other _ _ _ _ (by simp <;> omega)]; exact hv
  have ep : ((w.drewN q).setCell ⟨a, n * 2 + 1, none⟩ (.bool true)).cell? ⟨b, p.toNat, none⟩ = some (.int .u64 x) := by
    rw [World.cell?_setCell_other _ _ _ _ (by simp <;> omega)]; exact hp
  have ef : ∀ o, ((w.drewN q).setCell ⟨a, n * 2 + 1, none⟩ (.bool true)).frozen? ⟨b, o, none⟩ = false := fun o => by simpa using hfb o
  have ef11 := ef 11
  go_region
  have d8 : (((w.drewN q).setCell ⟨a, n * 2 + 1, none⟩ (.bool true)).setCell ⟨b, 11, none⟩ (.int .u64 (k - v))).cell? ⟨b, 8, none⟩ = some (.slice (some ⟨a, 0, none⟩) l c) := by
    rw [World.cell?_setCell_other _ _ _ _ (by simp <;> omega)]; exact e8
  have dv : (((w.drewN q).setCell ⟨a, n * 2 + 1, none⟩ (.bool true)).setCell ⟨b, 11, none⟩ (.int .u64 (k - v))).cell? ⟨a, n * 2, none⟩ = some (.int .u64 v) := by
    rw [World.cell?_setCell_other _ _ _ _ (by simp <;> omega)]; exact ev
  have dp : (((w.drewN q).setCell ⟨a, n * 2 + 1, none⟩ (.bool true)).setCell ⟨b, 11, none⟩ (.int .u64 (k - v))).cell? ⟨b, p.toNat, none⟩ = some (.int .u64 x) := by
    rw [World.cell?_setCell_other _ _ _ _ (by simp <;> omega)]; exact ep
  have dfp : (((w.drewN q).setCell ⟨a, n * 2 + 1, none⟩ (.bool true)).setCell ⟨b, 11, none⟩ (.int .u64 (k - v))).frozen? ⟨b, p.toNat, none⟩ = false := by simpa using ef p.toNat
  go_wp2_with fail
  go_region
  go_wp2_with fail
  go_ret
  first
    | exact ⟨rfl, q, rfl⟩
    | exact ⟨rfl, q + 1, rfl⟩
    | exact ⟨rfl, q + 2, rfl⟩
    | exact ⟨rfl, q + 3, rfl⟩
end Led
end Go.Proofs.YtmelkbainjfkeaaDoor
