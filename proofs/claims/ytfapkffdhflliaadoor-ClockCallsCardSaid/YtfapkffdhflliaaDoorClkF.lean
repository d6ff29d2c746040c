/-
  The closed law's helper of layer 17. Own work.
-/
import Derived.Test.YtfapkffdhflliaaDoorClk
namespace Go.Proofs.YtfapkffdhflliaaDoor
open Go.RowKit
set_option maxHeartbeats 800000 in
theorem fixed_true (w : World) : Calls Tryd.prog 9 #[] w fun e w' => e = .returned (.bool true) ∧ Below w.heap.size w w' := by
  go_enter Tryd.func9, Tryd.ntmps9
  go_wp2_with fail
  refine (Clk.next_ok 10 3 2 100 1 107 _ (by decide) (by decide) (by decide) (by decide) (by decide) (by decide) (by decide) (by decide) (by decide) (by decide) (by decide) (by decide)).mono ?_
  rintro e w1 ⟨rfl, hb1⟩
  rw [show min ((1 : Int) + 107 - 100) (10 - 3) = 7 by decide]
  have hz1 : w.heap.size < w1.heap.size := by have := hb1.size; simp at this; omega
  have r1 := keep1 (x := .int .u64 10) (o := 0) (b := w.heap.size) hb1 (by simp)
  have r2 := keep1 (x := .int .u64 3) (o := 1) (b := w.heap.size) hb1 (by simp)
  have B1 : Below w.heap.size w w1 := ((Below.refl _ _).alloc (Nat.le_refl _) _).trans (hb1.mono (by simp))
  go_wp2_with fail
  refine (Clk.next_out 10 3 2 100 1 109 _ (by decide) (by decide) (by decide) (by decide) (by decide) (by decide) (by decide) (by decide) (by decide) (by decide) (by decide)).mono ?_
  rintro e w2 ⟨rfl, hb2⟩
  have hz2 : w1.heap.size < w2.heap.size := by have := hb2.size; simp at this; omega
  have c1 := keep1 (x := .int .u64 7) (o := 0) (b := w1.heap.size) hb2 (by simp)
  have c2 := keep1 (x := .int .u64 107) (o := 1) (b := w1.heap.size) hb2 (by simp)
  have B2 : Below w.heap.size w w2 := (B1.alloc (by omega) _).trans (hb2.mono (by simp; omega))
  go_wp2_with fail
  refine (Err.is_num _ _ _).mono ?_
  rintro e w' ⟨rfl, rfl⟩
  go_wp2_with fail
  go_ret
  exact ⟨rfl, B2.alloc (by omega) _⟩
end Go.Proofs.YtfapkffdhflliaaDoor
