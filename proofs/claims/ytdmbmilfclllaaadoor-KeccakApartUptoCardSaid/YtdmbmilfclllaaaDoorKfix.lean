/-
  mootlaw02.fixed. Own work.
-/
import Derived.Test.YtdmbmilfclllaaaDoorKsum
import Derived.Test.YtdmbmilfclllaaaDoorKnil
import Derived.Test.YtdmbmilfclllaaaDoorKperm
namespace Go.Proofs.YtdmbmilfclllaaaDoor
open Go.RowKit
set_option linter.unusedVariables false
namespace Kc
theorem permIs : PermIs := fun a w h => perm_walk a w h
set_option maxHeartbeats 8000000 in
set_option maxRecDepth 100000 in
theorem fixed_walk (hP : PermIs) (w : World) (ht : Laid.KTab w) :
    Calls Tryd.prog 9 #[] w fun e w' => e = .returned (.bool true) ∧ Below w.heap.size w w' := by
  have hS := sum_walk hP [] none 0 w ht (.inl rfl) (fun x hx => by cases hx) (Nat.le_refl _) (by decide)
  rw [show List.length ([] : List Bt) = 0 from rfl] at hS
  have HS := Lib.hid hS
  clear hS ht
  have z2 := zeroHash
  generalize hz : (tab 32 fun _ => bv 0#8) = zh at *
  have HZ := Lib.hid hz
  clear hz
  have hzl : zh.size = 32 := by rw [← HZ.out, tab_size]
  have HZL := Lib.hid hzl
  clear hzl
  go_enter Tryd.func9, Tryd.ntmps9
  go_upto_region 2 with (first
    | (go_at_call 10; refine HS.out.mono ?_; rintro e w1 ⟨rfl, hb1⟩)
    | (refine wpList_store_row rfl 27 (.tmp 1) (.tmp 2) rfl w1.heap.size (tab 32 fun i => bv (sum [] i)) rfl rfl 27 zh (heap_alloc_last w1 _) (infH _) (by rw [HZL.out, tab_size]) (one_bv _ _) ?_; rw [World.setRow_alloc_new]; simp only [Act.put]))
  have ht := IsTab.new w1 27 32 fun i => bv (sum [] i)
  have c0 : (w1.alloc (.cells (tab 32 fun i => bv (sum [] i)) 27)).cell? ⟨w1.heap.size, 0, none⟩ = some (.int .u8 197) := by rw [ht.cell 0 (by decide), nil0]; rfl
  have c1 : (w1.alloc (.cells (tab 32 fun i => bv (sum [] i)) 27)).cell? ⟨w1.heap.size, 1, none⟩ = some (.int .u8 210) := by rw [ht.cell 1 (by decide), nil1]; rfl
  have c31 : (w1.alloc (.cells (tab 32 fun i => bv (sum [] i)) 27)).cell? ⟨w1.heap.size, 31, none⟩ = some (.int .u8 112) := by rw [ht.cell 31 (by decide), nil31]; rfl
  have hbb : Below w.heap.size w (w1.alloc (.cells (tab 32 fun i => bv (sum [] i)) 27)) := hb1.alloc hb1.size _
  have HBB := Lib.hid hbb
  clear hbb ht hb1 HS
  generalize w1.alloc (.cells (tab 32 fun i => bv (sum [] i)) 27) = w2 at *
  generalize w1.heap.size = q at *
  go_wp2_with fail
  go_ret
  exact ⟨rfl, HBB.out⟩
end Kc
end Go.Proofs.YtdmbmilfclllaaaDoor
