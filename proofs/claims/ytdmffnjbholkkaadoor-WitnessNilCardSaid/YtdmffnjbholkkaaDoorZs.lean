/-
  mootlaw03.Why of a fault. Own work.
-/
import Derived.Test.YtdmffnjbholkkaaDoorZr
import Derived.Test.YtdmffnjbholkkaaDoorAsf
import Derived.BigQuiet
import Derived.Deep.QuietTactic
namespace Go.Proofs.YtdmffnjbholkkaaDoor
open Go.RowKit
set_option linter.unusedVariables false
set_option linter.unusedSimpArgs false
namespace Wt
open Kc Mk
theorem ba (w : World) (o : Obj) : Below w.heap.size w (w.alloc o) := (Below.refl _ _).alloc (Nat.le_refl _) _
/-- The cell of errors.errorType. -/
def Et (w : World) : Prop := w.cell? ⟨0, 0, none⟩ = some (.iface 173 (.agg #[.pointer (some ⟨4, 41, none⟩)]))
theorem Et.next {w w' : World} (h : Et w) (hb : Below w.heap.size w w') : Et w' := keep1 hb h
set_option maxHeartbeats 4000000 in
set_option maxRecDepth 100000 in
theorem why_flt (w : World) (q p : Nat) (k : Int) (hg : Et w) (h0 : w.cell? ⟨q, 0, none⟩ = some (.int .i64 p)) (h1 : w.cell? ⟨q, 1, none⟩ = some (.iface 62 (.int .i64 k))) :
    Calls Tryd.prog 49 #[.iface 156 (.pointer (some ⟨q, 0, none⟩))] w fun e w' => e = .returned (.tuple #[.int .i64 k, .int .i64 p]) ∧ Below w.heap.size w w' := by
  have HB1 := Lib.hid (ba w (.cells #[.int .i64 0] 62))
  have HG1 := Lib.hid (hg.next HB1.out)
  have HC := Lib.hid (As.as_fault_num q k ⟨w.heap.size, 0, none⟩ (.int .i64 0) (w.alloc (.cells #[.int .i64 0] 62)) HG1.out (by simp) (by simp) (keep1 HB1.out h1))
  have H0 := Lib.hid (And.intro h0 (inHeap h0))
  have HE0 := Lib.hid hg
  clear hg h0 h1
  go_enter Tryd.func49, Tryd.ntmps49
  go_wp2_with (fail)
  refine HC.out.mono ?_
  rintro e y1 ⟨rfl, y2, rfl, hb⟩
  have HB2 := Lib.hid ((bl HB1.out hb).setCell (p := ⟨w.heap.size, 0, none⟩) (Nat.le_refl _) (.int .i64 k))
  have hz := hb.size
  simp at hz
  have c1 := keep1 (x := .int .i64 0) (o := 0) (b := w.heap.size) hb (by simp)
  have he0 := inHeap HE0.out
  have hq0 := H0.out.2
  have HY : Hid (Et (y2.setCell ⟨w.heap.size, 0, none⟩ (.int .i64 k)) ∧ (y2.setCell ⟨w.heap.size, 0, none⟩ (.int .i64 k)).cell? ⟨w.heap.size, 0, none⟩ = some (.int .i64 k) ∧ (y2.setCell ⟨w.heap.size, 0, none⟩ (.int .i64 k)).cell? ⟨q, 0, none⟩ = some (.int .i64 p)) := Lib.hid (by
    refine ⟨?_, World.cell?_setCell_same _ _ _ c1, ?_⟩
    · exact (World.cell?_setCell_other _ _ _ _ (fun e => by have h9 : w.heap.size = 0 := congrArg Addr.block e; omega)).trans (HG1.out.next hb)
    · rw [World.cell?_setCell_other _ _ _ _ (fun e => by have := congrArg Addr.block e; simp at this; omega)]
      exact keep1 hb (keep1 HB1.out H0.out.1))
  have hy2 : y2.heap.size = (y2.setCell ⟨w.heap.size, 0, none⟩ (.int .i64 k)).heap.size := (size_setCell _ _ _).symm
  clear hb c1 HC he0 hq0
  generalize y2.setCell ⟨w.heap.size, 0, none⟩ (.int .i64 k) = y3 at *
  have HD := Lib.hid (As.as_fault_fault ⟨q, 0, none⟩ ⟨y3.heap.size, 0, none⟩ (.pointer none) (y3.alloc (.cells #[.pointer none] 156)) (HY.out.1.next (ba _ _)) (by simp) (by simp))
  have HZ := Lib.hid (And.intro hz hy2)
  clear hz hy2
  go_wp2_with (fail)
  refine HD.out.mono ?_
  rintro e y4 ⟨rfl, y5, rfl, hb⟩
  have B3 := Lib.hid ((bl (HB2.out.alloc HB2.out.size (.cells #[.pointer none] 156)) hb).setCell (p := ⟨y3.heap.size, 0, none⟩) HB2.out.size (.pointer (some ⟨q, 0, none⟩)))
  have c4 := keep1 (x := .pointer none) (o := 0) (b := y3.heap.size) hb (by simp)
  have c5 := keep1 hb (keep1 (ba _ (.cells #[.pointer none] 156)) HY.out.2.1)
  have c6 := keep1 hb (keep1 (ba _ (.cells #[.pointer none] 156)) HY.out.2.2)
  have n5 := inHeap HY.out.2.1
  have n6 := inHeap HY.out.2.2
  have c7 := World.cell?_setCell_same y5 ⟨y3.heap.size, 0, none⟩ (.pointer (some ⟨q, 0, none⟩)) c4
  have c8 : (y5.setCell ⟨y3.heap.size, 0, none⟩ (.pointer (some ⟨q, 0, none⟩))).cell? ⟨w.heap.size, 0, none⟩ = some (.int .i64 k) := by
    rw [World.cell?_setCell_other _ _ _ _ (fun e => by have := congrArg Addr.block e; simp at this; omega)]; exact c5
  have c9 : (y5.setCell ⟨y3.heap.size, 0, none⟩ (.pointer (some ⟨q, 0, none⟩))).cell? ⟨q, 0, none⟩ = some (.int .i64 p) := by
    rw [World.cell?_setCell_other _ _ _ _ (fun e => by have := congrArg Addr.block e; simp at this; omega)]; exact c6
  clear hb c4 c5 c6 n5 n6 HD
  generalize y5.setCell ⟨y3.heap.size, 0, none⟩ (.pointer (some ⟨q, 0, none⟩)) = y6 at *
  go_wp2_with (fail)
  go_quiet (fail)
  go_wp2_with (fail)
  exact bodyPost_ret (v := .tuple #[.int .i64 k, .int .i64 p]) (by simp [results, Tryd.results49, go_sem]) rfl ⟨rfl, below_drewN B3.out nq⟩
end Wt
end Go.Proofs.YtdmffnjbholkkaaDoor
