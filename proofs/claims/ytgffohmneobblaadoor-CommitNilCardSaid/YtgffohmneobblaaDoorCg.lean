/-
  Layer 11: CommitNil. Written by genCg.py. Own work.
-/
import Derived.Test.YtgffohmneobblaaDoorCf
namespace Go.Proofs.YtgffohmneobblaaDoor
open Go.RowKit
set_option linter.unusedVariables false
set_option linter.unusedSimpArgs false
namespace Co
open Kc Mk Vm
set_option maxHeartbeats 2000000 in
set_option maxRecDepth 100000 in
theorem commitNil_walk (place : Int) {w : World} (w0 : (Lit.int .u64 place).wf = true) (ht : Laid.KTab w) :
    Calls Tryd.prog 7 #[.int .u64 place] w fun e w' => e = .returned (.bool true) ∧ Below w.heap.size w w' := by
  have HT := Lib.hid ht
  clear ht w0
  have z3 := zeroHd
  have HBH2 := Lib.hid (fun u : World => buildHd0 u)
  have HIN := Lib.hid (infHd m0)
  have HON := Lib.hid (oneHd m0)
  have HN0 := Lib.hid (HeadOf_nil w)
  generalize hz : (tab 19 (hv m0)) = zd at *
  clear hz
  have z2 := zeroHash
  have HBH := Lib.hid (fun u : World => buildH0 u)
  generalize hz : (tab 32 fun _ => bv 0#8) = zh at *
  have HZ := Lib.hid hz
  clear hz
  have HZI : Hid ((Tryd.prog.info? 42).map (·.size) = some zh.size ∧ zh.all (·.oneCell') = true ∧ zh.size = 32) := Lib.hid ⟨by rw [← HZ.out]; exact infH _, by rw [← HZ.out]; exact one_bv _ _, by rw [← HZ.out, tab_size]⟩
  have HIS := Lib.hid (fun y : World => (show Calls Tryd.prog 31 #[.iface 85 (.int .i64 1), .iface 85 (.int .i64 1)] y fun e w' => e = .returned (.bool true) ∧ y = w' from Err.is_num 1 1 y))
  go_enter Tryd.func7, Tryd.ntmps7
  go_upto_region 2 with (first
    | (go_at_call 17; (with_reducible refine HN0.out.mono ?_); rintro e y1 ⟨he, hb⟩; obtain rfl : e = _ := he; have HB1 := Lib.hid hb; clear hb HN0)
    | ((with_reducible refine wpList_store_row (P := Tryd.prog) (w := y1.alloc (.cells zd 48)) ?_ 48 (.tmp 3) (.tmp 15) ?_ y1.heap.size zd ?_ ?_ 48 zd (heap_alloc_last y1 _) HIN.out ?_ HON.out ?_); (· exact rfl); (· exact rfl); (· exact rfl); (· exact rfl); (· exact rfl); rw [World.setRow_alloc_new]; simp only [Act.put]))
  have HB2 : Hid (Below w.heap.size w (y1.alloc (.cells zd 48))) := Lib.hid (bl HB1.out (ba _ _))
  clear HB1
  generalize y1.alloc (.cells zd 48) = y2 at *
  have HR := Lib.hid (Root_nil y2)
  go_upto_region 3 with (first
    | (go_at_call 14; (with_reducible refine HR.out.mono ?_); rintro e y3 ⟨he, hb⟩; obtain rfl : e = _ := he; have HB3 := Lib.hid hb; clear hb HR)
    | ((with_reducible refine wpList_store_row (P := Tryd.prog) (w := y3.alloc (.cells zh 42)) ?_ 42 (.tmp 5) (.tmp 19) ?_ y3.heap.size (tab 32 fun i => bv (Mk.zero 0 i)) ?_ ?_ 42 zh (heap_alloc_last y3 _) (infH _) ?_ (one_bv _ _) ?_); (· exact rfl); (· exact rfl); (· exact rfl); (· exact rfl); (· rw [HZI.out.2.2, tab_size]); rw [World.setRow_alloc_new]; simp only [Act.put]))
  have HB4 : Hid (Below w.heap.size w (y3.alloc (.cells (tab 32 fun i => bv (Mk.zero 0 i)) 42))) := Lib.hid (bl (bl HB2.out HB3.out) (ba _ _))
  clear HB2 HB3
  generalize y3.alloc (.cells (tab 32 fun i => bv (Mk.zero 0 i)) 42) = y4 at *
  have HR := Lib.hid (Of_nil y4)
  go_upto_region 4 with (first
    | (go_at_call 18; (with_reducible refine HR.out.mono ?_); rintro e y5 ⟨he, hb⟩; obtain rfl : e = _ := he; have HB5 := Lib.hid hb; clear hb HR)
    | ((with_reducible refine wpList_store_row (P := Tryd.prog) (w := y5.alloc (.cells zh 42)) ?_ 42 (.tmp 7) (.tmp 23) ?_ y5.heap.size (tab 32 fun i => bv (Mk.zero 0 i)) ?_ ?_ 42 zh (heap_alloc_last y5 _) (infH _) ?_ (one_bv _ _) ?_); (· exact rfl); (· exact rfl); (· exact rfl); (· exact rfl); (· rw [HZI.out.2.2, tab_size]); rw [World.setRow_alloc_new]; simp only [Act.put]))
  have HB6 : Hid (Below w.heap.size w (y5.alloc (.cells (tab 32 fun i => bv (Mk.zero 0 i)) 42))) := Lib.hid (bl (bl HB4.out HB5.out) (ba _ _))
  clear HB4 HB5
  generalize y5.alloc (.cells (tab 32 fun i => bv (Mk.zero 0 i)) 42) = y6 at *
  have HR := Lib.hid (Prove_nil y6 place)
  go_upto_region 5 with (first
    | (go_at_call 20; (with_reducible refine HR.out.mono ?_); rintro e y7 ⟨he, hb⟩; obtain rfl : e = _ := he; have HB7 := Lib.hid hb; clear hb HR)
    | ((with_reducible refine wpList_store_row (P := Tryd.prog) (w := y7.alloc (.cells #[.int .u64 0, .slice none 0 0] 54)) ?_ 54 (.tmp 9) (.tmp 28) ?_ y7.heap.size #[.int .u64 0, .slice none 0 0] ?_ ?_ 54 #[.int .u64 0, .slice none 0 0] (heap_alloc_last y7 _) infPt ?_ rfl ?_); (· exact rfl); (· exact rfl); (· exact rfl); (· exact rfl); (· exact rfl); rw [World.setRow_alloc_new]; simp only [Act.put]))
  have HB8 : Hid (Below w.heap.size w (y7.alloc (.cells #[.int .u64 0, .slice none 0 0] 54))) := Lib.hid (bl (bl HB6.out HB7.out) (ba _ _))
  clear HB6 HB7
  generalize y7.alloc (.cells #[.int .u64 0, .slice none 0 0] 54) = y8 at *
  have HC8 : Hid (∀ j : Nat, j < 4 → (y8.alloc (.cells #[.iface 85 (.int .i64 1), .iface 85 (.int .i64 1), .iface 85 (.int .i64 1), .iface 85 (.int .i64 1)] 26)).cell? ⟨y8.heap.size, j, none⟩ = some (.iface 85 (.int .i64 1))) := Lib.hid (fun j hj => by
    rw [cell_of_row _ _ j _ _ _ (heap_alloc_new y8 _)]
    have e : j = 0 ∨ j = 1 ∨ j = 2 ∨ j = 3 := by omega
    rcases e with rfl | rfl | rfl | rfl <;> rfl)
  have HB9 : Hid (Below w.heap.size w (y8.alloc (.cells #[.iface 85 (.int .i64 1), .iface 85 (.int .i64 1), .iface 85 (.int .i64 1), .iface 85 (.int .i64 1)] 26))) := Lib.hid (bl HB8.out (ba _ _))
  clear HB8
  go_upto_region 6 with (fail)
  generalize y8.alloc (.cells #[.iface 85 (.int .i64 1), .iface 85 (.int .i64 1), .iface 85 (.int .i64 1), .iface 85 (.int .i64 1)] 26) = y9 at *
  generalize y8.heap.size = qs at *
  go_loopw [36] (fun t y => ∃ j : Nat, t = .int .i64 j ∧ Hid (j ≤ 4 ∧ y = y9)) (fun t _ => 4 - (intOf t).toNat)
  case atStart => exact ⟨0, rfl, Lib.hid ⟨Nat.zero_le _, rfl⟩⟩
  case round =>
    obtain ⟨j, rfl, hp⟩ := hrel
    obtain rfl : _ = y9 := hp.out.2
    have HP := Lib.hid hp.out.1
    clear hp
    by_cases hlt : (j : Int) < 4
    · have kc := HC8.out j (by omega)
      have HJ : Hid (j + 1 ≤ 4 ∧ wrap64 ((j : Int) + 1) = ((j + 1 : Nat) : Int)) := Lib.hid ⟨by omega, by unfold wrap64; omega⟩
      go_upto_region 9 with (go_at_call 31; (with_reducible refine (HIS.out _).mono ?_); rintro e y10 ⟨he, hy⟩; obtain rfl : e = _ := he; obtain rfl : _ = y10 := hy)
      have hw1 := HJ.out.2
      go_wp2_with (fail)
      go_roundw
      case rel => exact ⟨j + 1, by go_num, Lib.hid ⟨HJ.out.1, by first | trivial | rfl⟩⟩
      case measure =>
        have := HJ.out.1
        clear hw1
        try rw [HJ.out.2]
        simp [intOf]; omega
    · have HFX := Lib.hid (fixed11_walk wr (ktab_below HT.out HB9.out))
      go_wp2_with (go_at_call 12; (with_reducible refine HFX.out.mono ?_); rintro e y11 ⟨he, hb⟩; obtain rfl : e = _ := he; have HBF : Hid (Below w.heap.size w y11) := Lib.hid (bl HB9.out hb); clear hb HFX)
      exact bodyPost_ret (v := .bool true) (by simp [results, Tryd.results7, go_sem]) rfl ⟨rfl, HBF.out⟩
end Co
end Go.Proofs.YtgffohmneobblaaDoor
