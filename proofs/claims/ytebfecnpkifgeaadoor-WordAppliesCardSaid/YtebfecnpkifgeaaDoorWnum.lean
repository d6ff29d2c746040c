/-
  mootlaw01.number over nil and over a number; the law WordWide. Own work.
-/
import Derived.Test.YtebfecnpkifgeaaDoorAe
import Derived.Test.YtebfecnpkifgeaaDoorWr
namespace Go.Proofs.YtebfecnpkifgeaaDoor
open Go.RowKit
set_option linter.unusedVariables false
namespace W1
def errV (n : Int) : Value := if n = 0 then .nilIface else .iface 22 (.int .i64 n)
theorem number_nil (w : World) : Calls Tryd.prog 13 #[.nilIface] w fun e w' => e = .returned (.int .i64 0) ∧ w = w' := by
  go_enter Tryd.func13, Tryd.ntmps13
  go_wp2
  go_ret
  exact ⟨rfl, rfl⟩
set_option maxHeartbeats 1000000 in
theorem number_num (k : Int) (w : World) (hg : w.cell? ⟨0, 0, none⟩ = some (.iface 82 (.agg #[.pointer (some ⟨6, 30, none⟩)]))) :
    Calls Tryd.prog 13 #[.iface 22 (.int .i64 k)] w fun e w' => e = .returned (.int .i64 k) ∧ Below w.heap.size w w' := by
  have hlt := inHeap hg
  have hg1 : (w.alloc (.cells #[.int .i64 0] 22)).cell? ⟨0, 0, none⟩ = some (.iface 82 (.agg #[.pointer (some ⟨6, 30, none⟩)])) := by
    rw [World.cell?_alloc_lt _ _ ⟨0, 0, none⟩ hlt]; exact hg
  go_enter Tryd.func13, Tryd.ntmps13
  go_wp2_with fail
  refine (As.as_num k _ (.int .i64 0) _ hg1 (by simp) (by simp)).mono ?_
  rintro e w1 ⟨rfl, w2, rfl, hb⟩
  have hz := hb.size
  simp at hz
  have B1 := blo1 (Below.refl _ _) hb (Nat.le_refl _)
  have c1 := keep1 (x := .int .i64 0) (o := 0) (b := w.heap.size) hb (by simp)
  have c2 := World.cell?_setCell_same _ _ (.int .i64 k) c1
  have B2 : Below w.heap.size w (w2.setCell ⟨w.heap.size, 0, none⟩ (.int .i64 k)) := B1.setCell (by simp) _
  clear c1 hg1 hg
  go_wp2_with fail
  go_ret
  exact ⟨rfl, B2⟩
theorem number_any (k : Int) (w : World) (hg : w.cell? ⟨0, 0, none⟩ = some (.iface 82 (.agg #[.pointer (some ⟨6, 30, none⟩)]))) :
    Calls Tryd.prog 13 #[errV k] w fun e w' => e = .returned (.int .i64 k) ∧ Below w.heap.size w w' := by
  unfold errV
  by_cases h : k = 0
  · rw [if_pos h, h]
    refine (number_nil w).mono ?_
    rintro e _ ⟨rfl, rfl⟩
    exact ⟨rfl, Below.refl _ _⟩
  · rw [if_neg h]; exact number_num k w hg
end W1
end Go.Proofs.YtebfecnpkifgeaaDoor
