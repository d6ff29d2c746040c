/-
  mootlaw03.Why over nil and over a number. Own work.
-/
import Derived.Test.YtdmffnjbholkkaaDoorAs
import Derived.Test.YtdmffnjbholkkaaDoorRow
import Derived.Outline
namespace Go.Proofs.YtdmffnjbholkkaaDoor
open Go.RowKit
theorem why_nil (w : World) : Calls Tryd.prog 49 #[.nilIface] w fun e w' => e = .returned (.tuple #[.int .i64 0, .int .i64 (-1)]) ∧ w = w' := by
  go_enter Tryd.func49, Tryd.ntmps49
  go_wp2
  go_ret2
  exact ⟨rfl, rfl⟩
set_option maxHeartbeats 1000000 in
theorem why_num (k : Int) (w : World) (hg : w.cell? ⟨0, 0, none⟩ = some (.iface 173 (.agg #[.pointer (some ⟨4, 41, none⟩)]))) :
    Calls Tryd.prog 49 #[.iface 62 (.int .i64 k)] w fun e w' => e = .returned (.tuple #[.int .i64 k, .int .i64 (-1)]) ∧ Below w.heap.size w w' := by
  have hlt := inHeap hg
  have hg1 : (w.alloc (.cells #[.int .i64 0] 62)).cell? ⟨0, 0, none⟩ = some (.iface 173 (.agg #[.pointer (some ⟨4, 41, none⟩)])) := by
    rw [World.cell?_alloc_lt _ _ ⟨0, 0, none⟩ hlt]; exact hg
  go_enter Tryd.func49, Tryd.ntmps49
  go_wp2_with fail
  refine (As.as_num k _ (.int .i64 0) _ hg1 (by simp) (by simp)).mono ?_
  rintro e w1 ⟨rfl, w2, rfl, hb⟩
  have hz := hb.size
  simp at hz
  have B1 := blo1 (Below.refl _ _) hb (Nat.le_refl _)
  have c1 := keep1 (x := .int .i64 0) (o := 0) (b := w.heap.size) hb (by simp)
  have g1 := keep1 hb hg1
  have g2 : (w2.setCell ⟨w.heap.size, 0, none⟩ (.int .i64 k)).cell? ⟨0, 0, none⟩ = some (.iface 173 (.agg #[.pointer (some ⟨4, 41, none⟩)])) := by
    rw [World.cell?_setCell_other _ _ _ _ (by simp <;> omega)]; exact g1
  have c2 := World.cell?_setCell_same _ _ (.int .i64 k) c1
  have g3 : ((w2.setCell ⟨w.heap.size, 0, none⟩ (.int .i64 k)).alloc (.cells #[.pointer none] 156)).cell? ⟨0, 0, none⟩ = some (.iface 173 (.agg #[.pointer (some ⟨4, 41, none⟩)])) := by
    rw [World.cell?_alloc_lt _ _ ⟨0, 0, none⟩ (by simp; omega)]; exact g2
  have B2 : Below w.heap.size w (w2.setCell ⟨w.heap.size, 0, none⟩ (.int .i64 k)) := B1.setCell (by simp) _
  clear g1 g2 c1 hg1 hg
  go_wp2_with fail
  refine (As.as_num_fault k _ _ g3).mono ?_
  rintro e w3 ⟨rfl, hb3⟩
  have c4 := keep1 (x := .int .i64 k) (o := 0) (b := w.heap.size) hb3 (by rw [World.cell?_alloc_lt _ _ _ (by simp; omega)]; exact c2)
  have B3 := blo1 B2 hb3 (by simp; omega)
  clear c2 g3
  go_wp2_with fail
  go_ret2
  exact ⟨rfl, B3⟩
end Go.Proofs.YtdmffnjbholkkaaDoor
