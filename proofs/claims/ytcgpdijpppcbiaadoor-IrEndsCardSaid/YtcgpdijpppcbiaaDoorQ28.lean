/- Merged of Evx Evz Ewa Ewe Ewf. Own work. -/
import Derived.Test.YtcgpdijpppcbiaaDoorQ26
import Derived.Test.YtcgpdijpppcbiaaDoorQ17
import Derived.Test.YtcgpdijpppcbiaaDoorQ27
namespace Go.Proofs.YtcgpdijpppcbiaaDoor
open Go.RowKit
set_option linter.unusedVariables false
set_option linter.unusedSimpArgs false
namespace Ir
open Kc
theorem cst5 (w : World) : Calls Tryd.prog 6 #[.int .u64 5] w fun e w' => e = .returned (.agg #[.int .i64 26, .int .u64 5, .slice none 0 0]) ∧ Kept (fun _ => False) w w' := constant_walk 5 w
theorem cst1 (w : World) : Calls Tryd.prog 6 #[.int .u64 1] w fun e w' => e = .returned (.agg #[.int .i64 26, .int .u64 1, .slice none 0 0]) ∧ Kept (fun _ => False) w w' := constant_walk 1 w
theorem cst2048 (w : World) : Calls Tryd.prog 6 #[.int .u64 2048] w fun e w' => e = .returned (.agg #[.int .i64 26, .int .u64 2048, .slice none 0 0]) ∧ Kept (fun _ => False) w w' := constant_walk 2048 w
theorem lcl0 (w : World) : Calls Tryd.prog 7 #[.int .u64 0] w fun e w' => e = .returned (.agg #[.int .i64 27, .int .u64 0, .slice none 0 0]) ∧ Kept (fun _ => False) w w' := local9_walk 0 w
theorem lcl1 (w : World) : Calls Tryd.prog 7 #[.int .u64 1] w fun e w' => e = .returned (.agg #[.int .i64 27, .int .u64 1, .slice none 0 0]) ∧ Kept (fun _ => False) w w' := local9_walk 1 w
theorem eval1 (w : World) (pv : Value) (sb : Nat) (hp : SlP w (fun _ => True) pv p1) : Calls Tryd.prog 12 #[pv, .slice none 0 0, .pointer (some ⟨sb, 0, none⟩), .int .i64 999] w fun e w' => ∃ g c, ∃ u : Nat, e = .returned (.tuple #[.agg #[.int .u64 15, .slice (some ⟨g, 0, none⟩) 2048 c, .int .i64 u], .nilIface]) ∧ Kept (fun _ => False) w w' := by
  obtain ⟨s', hs, hd⟩ := run1
  refine (eval_ok 20 6 p1 right1 w pv sb hp 999 (by decide) 15 s' hs hd).mono ?_
  rintro e w' ⟨g, c, he, _, hk⟩
  exact ⟨g, c, s'.used, he, hk⟩
theorem eval2 (w : World) (pv : Value) (sb : Nat) (hp : SlP w (fun _ => True) pv p2) : Calls Tryd.prog 12 #[pv, .slice none 0 0, .pointer (some ⟨sb, 0, none⟩), .int .i64 9] w fun e w' => ∃ g c, e = .returned (.tuple #[.agg #[.int .u64 18446744073709551614, .slice (some ⟨g, 0, none⟩) 2048 c, .int .i64 3], .nilIface]) ∧ Kept (fun _ => False) w w' := by
  obtain ⟨s', hs, hd, hx, hu⟩ := run2
  refine (eval_end 3 6 p2 right2 w pv sb hp 9 (by decide) 0 s' hs hd).mono ?_
  rintro e w' ⟨g, c, he, _, hk⟩
  rw [hx, hu] at he
  exact ⟨g, c, he, hk⟩
set_option maxHeartbeats 8000000 in
set_option maxRecDepth 100000 in
theorem fixed12_walk (w : World) (ht : Laid.KTab w) : Calls Tryd.prog 10 #[] w fun e w' => e = .returned (.bool true) ∧ Kept (fun _ => False) w w' := by
  have HT := Lib.hid ht
  have HA := Lib.hid (Ac.start w)
  have HI3 := Lib.hid (fun y : World => (show Calls Tryd.prog 13 #[.iface 51 (.int .i64 3), .iface 51 (.int .i64 3)] y fun e w' => e = .returned (.bool true) ∧ y = w' from Err.is_num 3 3 y))
  clear ht
  go_enter Tryd.func10, Tryd.ntmps10
  go_upto_region 2 with (first
  | (go_at_call 6; (with_reducible refine (cst5 _).mono ?_); rintro e y ⟨he, hk⟩; obtain rfl : e = _ := he; have HA := Lib.hid (HA.out.next hk); clear hk)
  | (go_at_call 6; (with_reducible refine (cst1 _).mono ?_); rintro e y ⟨he, hk⟩; obtain rfl : e = _ := he; have HA := Lib.hid (HA.out.next hk); clear hk)
  | (go_at_call 7; (with_reducible refine (lcl0 _).mono ?_); rintro e y ⟨he, hk⟩; obtain rfl : e = _ := he; have HA := Lib.hid (HA.out.next hk); clear hk)
  | (go_at_call 7; (with_reducible refine (lcl1 _).mono ?_); rintro e y ⟨he, hk⟩; obtain rfl : e = _ := he; have HA := Lib.hid (HA.out.next hk); clear hk)
  | ((with_reducible refine wpList_buildTwo (P := Tryd.prog) (w := y) ?_ 23 (.tmp 11) (.tmp 12) ?_ (.agg #[.int .i64 27, .int .u64 0, .slice none 0 0]) (.agg #[.int .i64 27, .int .u64 1, .slice none 0 0]) (.slice (some ⟨y.heap.size, 0, none⟩) 2 2) ?_ ?_ (y.alloc (.cells #[.int .i64 27, .int .u64 0, .slice none 0 0, .int .i64 27, .int .u64 1, .slice none 0 0] 25)) (buildX2 _ _ _ _ _ _ y) ?_); (· exact rfl); (· exact rfl); (· exact rfl); (· exact rfl); have HA := Lib.hid (HA.out.addE (kept_alloc9 y _) (show SlE (y.alloc (.cells #[.int .i64 27, .int .u64 0, .slice none 0 0, .int .i64 27, .int .u64 1, .slice none 0 0] 25)) (fun _ => True) (.slice (some ⟨y.heap.size, 0, none⟩) 2 2) (.cons 27 0 .nil (.cons 27 1 .nil .nil)) from ex2 (D := fun _ => True) slEn slEn trivial (by decide) (by decide))); generalize y.heap.size = b13 at *; generalize y.alloc (.cells #[.int .i64 27, .int .u64 0, .slice none 0 0, .int .i64 27, .int .u64 1, .slice none 0 0] 25) = y at *)
  | ((with_reducible refine wpList_buildTwo (P := Tryd.prog) (w := y) ?_ 23 (.tmp 16) (.tmp 17) ?_ (.agg #[.int .i64 27, .int .u64 1, .slice none 0 0]) (.agg #[.int .i64 26, .int .u64 1, .slice none 0 0]) (.slice (some ⟨y.heap.size, 0, none⟩) 2 2) ?_ ?_ (y.alloc (.cells #[.int .i64 27, .int .u64 1, .slice none 0 0, .int .i64 26, .int .u64 1, .slice none 0 0] 25)) (buildX2 _ _ _ _ _ _ y) ?_); (· exact rfl); (· exact rfl); (· exact rfl); (· exact rfl); have HA := Lib.hid (HA.out.addE (kept_alloc9 y _) (show SlE (y.alloc (.cells #[.int .i64 27, .int .u64 1, .slice none 0 0, .int .i64 26, .int .u64 1, .slice none 0 0] 25)) (fun _ => True) (.slice (some ⟨y.heap.size, 0, none⟩) 2 2) (.cons 27 1 .nil (.cons 26 1 .nil .nil)) from ex2 (D := fun _ => True) slEn slEn trivial (by decide) (by decide))); generalize y.heap.size = b18 at *; generalize y.alloc (.cells #[.int .i64 27, .int .u64 1, .slice none 0 0, .int .i64 26, .int .u64 1, .slice none 0 0] 25) = y at *)
  | ((with_reducible refine wpList_buildTwo (P := Tryd.prog) (w := y) ?_ 27 (.tmp 15) (.tmp 20) ?_ (.agg #[.int .i64 1, .int .i64 0, .int .i64 1, .int .u64 0, .slice (some ⟨b13, 0, none⟩) 2 2, .int .i64 0, .int .u64 0, .slice none 0 0, .slice none 0 0, .slice none 0 0]) (.agg #[.int .i64 1, .int .i64 1, .int .i64 2, .int .u64 0, .slice (some ⟨b18, 0, none⟩) 2 2, .int .i64 0, .int .u64 0, .slice none 0 0, .slice none 0 0, .slice none 0 0]) (.slice (some ⟨y.heap.size, 0, none⟩) 2 2) ?_ ?_ (y.alloc (.cells #[.int .i64 1, .int .i64 0, .int .i64 1, .int .u64 0, .slice (some ⟨b13, 0, none⟩) 2 2, .int .i64 0, .int .u64 0, .slice none 0 0, .slice none 0 0, .slice none 0 0, .int .i64 1, .int .i64 1, .int .i64 2, .int .u64 0, .slice (some ⟨b18, 0, none⟩) 2 2, .int .i64 0, .int .u64 0, .slice none 0 0, .slice none 0 0, .slice none 0 0] 29)) (buildS2 _ _ _ _ _ _ _ _ _ _ _ _ _ _ _ _ _ _ _ _ y) ?_); (· exact rfl); (· exact rfl); (· exact rfl); (· exact rfl); have HA := Lib.hid (HA.out.addS (kept_alloc9 y _) (show SlS (y.alloc (.cells #[.int .i64 1, .int .i64 0, .int .i64 1, .int .u64 0, .slice (some ⟨b13, 0, none⟩) 2 2, .int .i64 0, .int .u64 0, .slice none 0 0, .slice none 0 0, .slice none 0 0, .int .i64 1, .int .i64 1, .int .i64 2, .int .u64 0, .slice (some ⟨b18, 0, none⟩) 2 2, .int .i64 0, .int .u64 0, .slice none 0 0, .slice none 0 0, .slice none 0 0] 29)) (fun _ => True) (.slice (some ⟨y.heap.size, 0, none⟩) 2 2) (body1) from sx2 (D := fun _ => True) trivial HA.out.at2 slEn slS0 slS0 (by decide) (by decide) HA.out.at1 slEn slS0 slS0 (by decide) (by decide))); generalize y.heap.size = b21 at *; generalize y.alloc (.cells #[.int .i64 1, .int .i64 0, .int .i64 1, .int .u64 0, .slice (some ⟨b13, 0, none⟩) 2 2, .int .i64 0, .int .u64 0, .slice none 0 0, .slice none 0 0, .slice none 0 0, .int .i64 1, .int .i64 1, .int .i64 2, .int .u64 0, .slice (some ⟨b18, 0, none⟩) 2 2, .int .i64 0, .int .u64 0, .slice none 0 0, .slice none 0 0, .slice none 0 0] 29) = y at *)
  | ((with_reducible refine wpList_buildThree (P := Tryd.prog) (w := y) ?_ 27 (.tmp 9) (.tmp 22) (.tmp 24) ?_ (.agg #[.int .i64 1, .int .i64 1, .int .i64 26, .int .u64 5, .slice none 0 0, .int .i64 0, .int .u64 0, .slice none 0 0, .slice none 0 0, .slice none 0 0]) (.agg #[.int .i64 4, .int .i64 0, .int .i64 27, .int .u64 1, .slice none 0 0, .int .i64 0, .int .u64 0, .slice none 0 0, .slice (some ⟨b21, 0, none⟩) 2 2, .slice none 0 0]) (.agg #[.int .i64 5, .int .i64 0, .int .i64 27, .int .u64 0, .slice none 0 0, .int .i64 0, .int .u64 0, .slice none 0 0, .slice none 0 0, .slice none 0 0]) (.slice (some ⟨y.heap.size, 0, none⟩) 3 3) ?_ ?_ ?_ (y.alloc (.cells #[.int .i64 1, .int .i64 1, .int .i64 26, .int .u64 5, .slice none 0 0, .int .i64 0, .int .u64 0, .slice none 0 0, .slice none 0 0, .slice none 0 0, .int .i64 4, .int .i64 0, .int .i64 27, .int .u64 1, .slice none 0 0, .int .i64 0, .int .u64 0, .slice none 0 0, .slice (some ⟨b21, 0, none⟩) 2 2, .slice none 0 0, .int .i64 5, .int .i64 0, .int .i64 27, .int .u64 0, .slice none 0 0, .int .i64 0, .int .u64 0, .slice none 0 0, .slice none 0 0, .slice none 0 0] 29)) (buildS3 _ _ _ _ _ _ _ _ _ _ _ _ _ _ _ _ _ _ _ _ _ _ _ _ _ _ _ _ _ _ y) ?_); (· exact rfl); (· exact rfl); (· exact rfl); (· exact rfl); (· exact rfl); have HA := Lib.hid (HA.out.addS (kept_alloc9 y _) (show SlS (y.alloc (.cells #[.int .i64 1, .int .i64 1, .int .i64 26, .int .u64 5, .slice none 0 0, .int .i64 0, .int .u64 0, .slice none 0 0, .slice none 0 0, .slice none 0 0, .int .i64 4, .int .i64 0, .int .i64 27, .int .u64 1, .slice none 0 0, .int .i64 0, .int .u64 0, .slice none 0 0, .slice (some ⟨b21, 0, none⟩) 2 2, .slice none 0 0, .int .i64 5, .int .i64 0, .int .i64 27, .int .u64 0, .slice none 0 0, .int .i64 0, .int .u64 0, .slice none 0 0, .slice none 0 0, .slice none 0 0] 29)) (fun _ => True) (.slice (some ⟨y.heap.size, 0, none⟩) 3 3) (stm1) from sx3 (D := fun _ => True) trivial slEn slEn slS0 slS0 (by decide) (by decide) slEn slEn HA.out.st1 slS0 (by decide) (by decide) slEn slEn slS0 slS0 (by decide) (by decide))); generalize y.heap.size = b25 at *; generalize y.alloc (.cells #[.int .i64 1, .int .i64 1, .int .i64 26, .int .u64 5, .slice none 0 0, .int .i64 0, .int .u64 0, .slice none 0 0, .slice none 0 0, .slice none 0 0, .int .i64 4, .int .i64 0, .int .i64 27, .int .u64 1, .slice none 0 0, .int .i64 0, .int .u64 0, .slice none 0 0, .slice (some ⟨b21, 0, none⟩) 2 2, .slice none 0 0, .int .i64 5, .int .i64 0, .int .i64 27, .int .u64 0, .slice none 0 0, .int .i64 0, .int .u64 0, .slice none 0 0, .slice none 0 0, .slice none 0 0] 29) = y at *)
  | ((with_reducible refine wpList_build1 (P := Tryd.prog) (w := y) ?_ 33 (.tmp 26) ?_ (.agg #[.int .i64 0, .int .i64 2, .slice (some ⟨b25, 0, none⟩) 3 3]) (.slice (some ⟨y.heap.size, 0, none⟩) 1 1) ?_ (y.alloc (.cells #[.int .i64 0, .int .i64 2, .slice (some ⟨b25, 0, none⟩) 3 3] 32)) (buildF1 _ _ _ y) ?_); (· exact rfl); (· exact rfl); (· exact rfl); have HA := Lib.hid (HA.out.addF (kept_alloc9 y _) (show SlP (y.alloc (.cells #[.int .i64 0, .int .i64 2, .slice (some ⟨b25, 0, none⟩) 3 3] 32)) (fun _ => True) (.slice (some ⟨y.heap.size, 0, none⟩) 1 1) (p1) from fx1 HA.out.st1)); generalize y.heap.size = b27 at *; generalize y.alloc (.cells #[.int .i64 0, .int .i64 2, .slice (some ⟨b25, 0, none⟩) 3 3] 32) = y at *))
  go_upto_region 3 with (go_at_call 11; (with_reducible refine (stores9 _ (ktab_kept HT.out HA.out.kp)).mono ?_); rintro e y ⟨sb, rb, he, hk⟩; obtain rfl : e = _ := he; have HA := Lib.hid (HA.out.next hk); clear hk)
  go_upto_region 4 with (first
  | (go_at_call 12; (with_reducible refine (eval1 _ _ sb HA.out.pr1).mono ?_); rintro e y ⟨g1, c1, u1, he, hk⟩; obtain rfl : e = _ := he; have HA := Lib.hid (HA.out.next hk); clear hk)
  | ((with_reducible refine wpList_store_row (P := Tryd.prog) (w := y.alloc (.cells zR 36)) ?_ 36 (.tmp 4) (.tmp 36) ?_ y.heap.size #[.int .u64 15, .slice (some ⟨g1, 0, none⟩) 2048 c1, .int .i64 u1] ?_ ?_ 36 zR (heap_alloc_last y _) infRes rfl (by simp [Value.oneCell']) ?_); (· exact rfl); (· exact rfl); (· exact rfl); (· exact rfl); rw [World.setRow_alloc_new]; simp only [Act.put]; have HA := Lib.hid (HA.out.addR (.int .u64 15) (.slice (some ⟨g1, 0, none⟩) 2048 c1) (.int .i64 u1) 36); generalize y.heap.size = b4 at *; generalize y.alloc (.cells #[.int .u64 15, .slice (some ⟨g1, 0, none⟩) 2048 c1, .int .i64 u1] 36) = y at *))
  go_upto_region 5 with (first
  | (go_at_call 6; (with_reducible refine (cst2048 _).mono ?_); rintro e y ⟨he, hk⟩; obtain rfl : e = _ := he; have HA := Lib.hid (HA.out.next hk); clear hk)
  | ((with_reducible refine wpList_build1 (P := Tryd.prog) (w := y) ?_ 23 (.tmp 39) ?_ (.agg #[.int .i64 26, .int .u64 2048, .slice none 0 0]) (.slice (some ⟨y.heap.size, 0, none⟩) 1 1) ?_ (y.alloc (.cells #[.int .i64 26, .int .u64 2048, .slice none 0 0] 25)) (buildX1 _ _ _ y) ?_); (· exact rfl); (· exact rfl); (· exact rfl); have HA := Lib.hid (HA.out.addE (kept_alloc9 y _) (show SlE (y.alloc (.cells #[.int .i64 26, .int .u64 2048, .slice none 0 0] 25)) (fun _ => True) (.slice (some ⟨y.heap.size, 0, none⟩) 1 1) (.cons 26 2048 .nil .nil) from ex1 (D := fun _ => True) slEn trivial (by decide))); generalize y.heap.size = b40 at *; generalize y.alloc (.cells #[.int .i64 26, .int .u64 2048, .slice none 0 0] 25) = y at *)
  | ((with_reducible refine wpList_build1 (P := Tryd.prog) (w := y) ?_ 27 (.tmp 42) ?_ (.agg #[.int .i64 5, .int .i64 0, .int .i64 28, .int .u64 0, .slice (some ⟨b40, 0, none⟩) 1 1, .int .i64 0, .int .u64 0, .slice none 0 0, .slice none 0 0, .slice none 0 0]) (.slice (some ⟨y.heap.size, 0, none⟩) 1 1) ?_ (y.alloc (.cells #[.int .i64 5, .int .i64 0, .int .i64 28, .int .u64 0, .slice (some ⟨b40, 0, none⟩) 1 1, .int .i64 0, .int .u64 0, .slice none 0 0, .slice none 0 0, .slice none 0 0] 29)) (buildS1 _ _ _ _ _ _ _ _ _ _ y) ?_); (· exact rfl); (· exact rfl); (· exact rfl); have HA := Lib.hid (HA.out.addS (kept_alloc9 y _) (show SlS (y.alloc (.cells #[.int .i64 5, .int .i64 0, .int .i64 28, .int .u64 0, .slice (some ⟨b40, 0, none⟩) 1 1, .int .i64 0, .int .u64 0, .slice none 0 0, .slice none 0 0, .slice none 0 0] 29)) (fun _ => True) (.slice (some ⟨y.heap.size, 0, none⟩) 1 1) (.cons 5 0 28 0 (.cons 26 2048 .nil .nil) 0 0 .nil .nil .nil .nil) from sx1 (D := fun _ => True) trivial HA.out.at1 slEn slS0 slS0 (by decide) (by decide))); generalize y.heap.size = b43 at *; generalize y.alloc (.cells #[.int .i64 5, .int .i64 0, .int .i64 28, .int .u64 0, .slice (some ⟨b40, 0, none⟩) 1 1, .int .i64 0, .int .u64 0, .slice none 0 0, .slice none 0 0, .slice none 0 0] 29) = y at *)
  | ((with_reducible refine wpList_build1 (P := Tryd.prog) (w := y) ?_ 33 (.tmp 44) ?_ (.agg #[.int .i64 0, .int .i64 0, .slice (some ⟨b43, 0, none⟩) 1 1]) (.slice (some ⟨y.heap.size, 0, none⟩) 1 1) ?_ (y.alloc (.cells #[.int .i64 0, .int .i64 0, .slice (some ⟨b43, 0, none⟩) 1 1] 32)) (buildF1 _ _ _ y) ?_); (· exact rfl); (· exact rfl); (· exact rfl); have HA := Lib.hid (HA.out.addF (kept_alloc9 y _) (show SlP (y.alloc (.cells #[.int .i64 0, .int .i64 0, .slice (some ⟨b43, 0, none⟩) 1 1] 32)) (fun _ => True) (.slice (some ⟨y.heap.size, 0, none⟩) 1 1) (p2) from fx1 HA.out.st1)); generalize y.heap.size = b45 at *; generalize y.alloc (.cells #[.int .i64 0, .int .i64 0, .slice (some ⟨b43, 0, none⟩) 1 1] 32) = y at *)
  | (go_at_call 12; (with_reducible refine (eval2 _ _ sb HA.out.pr1).mono ?_); rintro e y ⟨g2, c2, he, hk⟩; obtain rfl : e = _ := he; have HA := Lib.hid (HA.out.next hk); clear hk)
  | ((with_reducible refine wpList_store_row (P := Tryd.prog) (w := y.alloc (.cells zR 36)) ?_ 36 (.tmp 6) (.tmp 48) ?_ y.heap.size #[.int .u64 18446744073709551614, .slice (some ⟨g2, 0, none⟩) 2048 c2, .int .i64 3] ?_ ?_ 36 zR (heap_alloc_last y _) infRes rfl (by simp [Value.oneCell']) ?_); (· exact rfl); (· exact rfl); (· exact rfl); (· exact rfl); rw [World.setRow_alloc_new]; simp only [Act.put]; have HA := Lib.hid (HA.out.addR (.int .u64 18446744073709551614) (.slice (some ⟨g2, 0, none⟩) 2048 c2) (.int .i64 3) 36); generalize y.heap.size = b6 at *; generalize y.alloc (.cells #[.int .u64 18446744073709551614, .slice (some ⟨g2, 0, none⟩) 2048 c2, .int .i64 3] 36) = y at *))
  go_wp2_with (first
  | (go_at_call 14; (with_reducible refine (check_walk p1 right1 _ _ _ HA.out.pr2).mono ?_); rintro e y ⟨he, hk⟩; obtain rfl : e = _ := he; have HA := Lib.hid (HA.out.next hk); have k40 : y.cell? ⟨b4, 0, none⟩ = some (.int .u64 15) := HA.out.c (b4, 0, .int .u64 15) (by simp); have k60 : y.cell? ⟨b6, 0, none⟩ = some (.int .u64 18446744073709551614) := HA.out.c (b6, 0, .int .u64 18446744073709551614) (by simp); have k62 : y.cell? ⟨b6, 2, none⟩ = some (.int .i64 3) := HA.out.c (b6, 2, .int .i64 3) (by simp); clear hk)
  | (go_at_call 14; (with_reducible refine (check_nil _).mono ?_); rintro e y ⟨he, hk⟩; obtain rfl : e = _ := he; have HA := Lib.hid (HA.out.next hk); clear hk)
  | (go_at_call 13; (with_reducible refine (HI3.out _).mono ?_); rintro e y ⟨he, hk⟩; obtain rfl : e = _ := he; subst hk))
  exact bodyPost_ret (v := .bool true) (by simp [results, Tryd.results10, go_sem]) rfl ⟨rfl, HA.out.kp⟩
end Ir
end Go.Proofs.YtcgpdijpppcbiaaDoor
namespace Go.Proofs.YtcgpdijpppcbiaaDoor
open Go.RowKit
set_option linter.unusedVariables false
namespace Ir
open Kc
def bodyL (c : Nat) : Sf := .cons 1 1 1 0 (.cons 27 1 .nil (.cons 26 c .nil .nil)) 0 0 .nil .nil .nil (.cons 1 0 2 0 (.cons 27 0 .nil (.cons 26 1 .nil .nil)) 0 0 .nil .nil .nil .nil)
def stmL (n c : Nat) : Sf := .cons 1 0 26 n .nil 0 0 .nil .nil .nil (.cons 4 0 27 0 .nil 0 0 .nil (bodyL c) .nil (.cons 5 0 27 1 .nil 0 0 .nil .nil .nil .nil))
def p4 (n c : Nat) : List Fn := [⟨0, 2, stmL n c⟩]
def Rs.more (s : Rs) (k : Nat) : Rs := { s with used := s.used + k }
end Ir
end Go.Proofs.YtcgpdijpppcbiaaDoor
namespace Go.Proofs.YtcgpdijpppcbiaaDoor
open Go.RowKit
set_option linter.unusedVariables false
set_option linter.unusedSimpArgs false
namespace Ir
open Kc
set_option maxHeartbeats 4000000 in
set_option maxRecDepth 100000 in
/-- eval: a program with much fuel that comes to its end. -/
theorem evalL (w : World) (ht : Laid.KTab w) (pa : Option Addr) (pn pc : Nat) (x u : Nat) (Q : Nat → World → Prop)
    (hE : ∀ y sb, Kept (fun _ => False) w y → Calls Tryd.prog 12 #[.slice pa pn pc, .slice none 0 0, .pointer (some ⟨sb, 0, none⟩), .int .i64 100000] y fun e w' => ∃ g c, e = .returned (.tuple #[.agg #[.int .u64 x, .slice (some ⟨g, 0, none⟩) 2048 c, .int .i64 u], .nilIface]) ∧ Q g w' ∧ Kept (fun _ => False) y w')
    (hQ : ∀ g y y', Q g y → Kept (fun k => k = w.heap.size) y y' → y.heap[w.heap.size]? = some (.cells zR 36 (0, 0)) → Q g y') :
    Calls Tryd.prog 9 #[.slice pa pn pc, .slice none 0 0] w fun e w' => ∃ g c, e = .returned (.tuple #[.agg #[.int .u64 x, .slice (some ⟨g, 0, none⟩) 2048 c, .int .i64 u], .nilIface]) ∧ Q g w' ∧ Kept (fun _ => False) w w' := by
  have hk0 := kept_alloc9 w (.cells zR 36)
  have HRZ := Lib.hid (heap_alloc_last w (.cells zR 36))
  have HST := Lib.hid (stores9 _ (ktab_kept ht hk0))
  have HK0 := Lib.hid hk0
  have HE := Lib.hid hE
  have HQ := Lib.hid hQ
  clear hk0 ht hE hQ
  go_enter Tryd.func9, Tryd.ntmps9
  go_upto_region 1 with (fail)
  generalize w.alloc (.cells zR 36) = y0 at *
  generalize hq8 : w.heap.size = q8 at HRZ
  have HQ8 := Lib.hid hq8
  clear hq8
  go_upto_region 2 with (go_at_call 11; (with_reducible refine HST.out.mono ?_); rintro e y1 ⟨sb, rb, he, hk⟩; obtain rfl : e = _ := he; have HK1 := Lib.hid (HK0.out.trans hk fun _ _ h => h); have HR1 := Lib.hid ((hk.block q8 (Array.getElem?_eq_some_iff.1 HRZ.out).1 id).trans HRZ.out); clear hk HST)
  have HEV := Lib.hid (HE.out y1 sb HK1.out)
  go_wp2_with (first
    | (go_at_call 12; (with_reducible refine HEV.out.mono ?_); rintro e y2 ⟨g, c, he, hq, hk⟩; obtain rfl : e = _ := he; have HK2 := Lib.hid (HK1.out.trans hk fun _ _ h => h); have HR2 := Lib.hid ((hk.block q8 (Array.getElem?_eq_some_iff.1 HR1.out).1 id).trans HR1.out); have HQ2 := Lib.hid hq; clear hk hq HEV)
    | ((with_reducible refine wpList_store_row (P := Tryd.prog) (w := y2) ?_ 36 (.tmp 4) (.tmp 16) ?_ q8 #[.int .u64 x, .slice (some ⟨g, 0, none⟩) 2048 c, .int .i64 u] ?_ ?_ 36 zR HR2.out infRes rfl (by simp [Value.oneCell']) ?_); (· exact rfl); (· exact rfl); (· exact rfl); (· exact rfl)))
  have hrow := setRow_heap y2 q8 zR #[.int .u64 x, .slice (some ⟨g, 0, none⟩) 2048 c, .int .i64 u] 36 (0, 0) HR2.out
  have hkr : Kept (fun k => k = q8) y2 (y2.setRow q8 #[.int .u64 x, .slice (some ⟨g, 0, none⟩) 2048 c, .int .i64 u]) := ⟨by simp, by simp, by simp, by simp, fun k hk hn => setRow_other y2 q8 k _ hn⟩
  exact bodyPost_ret (Kc.results_cell_tmp rfl _ _ q8 36 _ (0, 0) _ rfl hrow undRes rfl infRes .nilIface rfl) rfl ⟨g, c, rfl, HQ.out g y2 _ HQ2.out (by rw [HQ8.out]; exact hkr) (by rw [HQ8.out]; exact HR2.out), HK2.out.trans hkr fun k hk e => by have := HQ8.out; omega⟩
end Ir
end Go.Proofs.YtcgpdijpppcbiaaDoor
namespace Go.Proofs.YtcgpdijpppcbiaaDoor
open Go.RowKit
set_option linter.unusedVariables false
set_option linter.unusedSimpArgs false
namespace Ir
open Kc
def e1 (x : Nat) : Sf := .cons 7 0 26 x .nil 0 0 .nil .nil .nil .nil
def e2 (k : Nat) : Sf := .cons 6 0 28 0 (.cons 26 k .nil .nil) 0 0 .nil .nil .nil .nil
theorem right6a (A x : Nat) : right (p6 A (e1 x)) = true := by rfl
theorem right6b (A k : Nat) : right (p6 A (e2 k)) = true := by rfl
def S6 (k : Nat) : Rs := ⟨fun _ => 0, 100000, k, false, 0⟩
def T6 (A k : Nat) : Rs := ⟨upd (fun _ => 0) A 9, 100000, k, false, 0⟩
def L6 : Nat → Nat := fun i => if i < 0 then 0 else 0
theorem en1 (P6 : List Fn) (x A : Nat) : (sem P6 ap 3 8).lst ((e1 x).wth .nil) L6 0 (T6 A 9) = some (2, L6, 0, (T6 A 11).ends x) := by rfl
theorem en2 (P6 : List Fn) (k A : Nat) (hk : 2048 ≤ k) : (sem P6 ap 3 8).lst ((e2 k).wth .nil) L6 0 (T6 A 9) = some (2, L6, 0, (T6 A 12).ends wrong) := by
  have h : (sem P6 ap 3 7).val 28 0 (.cons 26 k .nil .nil) L6 (T6 A 10) = some (0, false, (T6 A 12).ends wrong) := by
    have h0 : (sem P6 ap 3 7).val 28 0 (.cons 26 k .nil .nil) L6 (T6 A 10) = (if k < 2048 then some ((T6 A 12).mem k, true, T6 A 12) else some (0, false, (T6 A 12).ends wrong)) := rfl
    rw [h0, if_neg (by omega)]
  show evL (sem P6 ap 3 7) 3 (.cons 6 0 28 0 (.cons 26 k .nil .nil) 0 0 .nil .nil .nil .nil) L6 0 (T6 A 9) = _
  rw [evL]
  have h2 : stepSt (sem P6 ap 3 7) 3 6 0 28 0 (.cons 26 k .nil .nil) 0 0 .nil .nil .nil L6 0 (T6 A 9) = (match (sem P6 ap 3 7).val 28 0 (.cons 26 k .nil .nil) L6 (T6 A 10) with
    | none => none
    | some (_, false, s1) => some (2, L6, 0, s1)
    | some (a, true, s1) => stepKind (sem P6 ap 3 7) 6 0 0 0 .nil .nil .nil a L6 0 s1) := rfl
  rw [h2, h]
  rfl
theorem fst6 (P6 : List Fn) (A : Nat) (hA : A < 2048) : stepSt (sem P6 ap 3 8) 3 2 0 26 A .nil 26 9 .nil .nil .nil L6 0 (S6 4) = some (0, L6, 0, T6 A 7) := by
  have h : stepSt (sem P6 ap 3 8) 3 2 0 26 A .nil 26 9 .nil .nil .nil L6 0 (S6 4) = (if A < 2048 then some (0, L6, 0, T6 A 7) else some (2, L6, 0, (S6 7).ends wrong)) := rfl
  rw [h, if_pos hA]
theorem snd6 (P6 : List Fn) (A : Nat) (en : Sf) : stepSt (sem P6 ap 3 8) 3 3 0 26 1 .nil 0 0 .nil (en.wth .nil) .nil L6 0 (T6 A 7) = (sem P6 ap 3 8).lst (en.wth .nil) L6 0 (T6 A 9) := rfl
theorem run6 (A : Nat) (en : Sf) (hA : A < 2048) (s' : Rs) (hen : (sem (p6 A en) ap 3 8).lst (en.wth .nil) L6 0 (T6 A 9) = some (2, L6, 0, s')) : stepCall (p6 A en) (sem (p6 A en) ap 3 12) 0 0 (fun _ => 0) (s0 100000) = some (0, false, s') := by
  have h1 : evL (sem (p6 A en) ap 3 8) 3 (t23 A en) L6 0 (S6 4) = some (2, L6, 0, s') := by
    show evL (sem (p6 A en) ap 3 8) 3 (.cons 2 0 26 A .nil 26 9 .nil .nil .nil (.cons 3 0 26 1 .nil 0 0 .nil (en.wth .nil) .nil ((tS A 7).wth .nil))) L6 0 (S6 4) = _
    rw [evL, fst6 _ A hA]
    dsimp only
    rw [if_pos rfl, evL, snd6, hen]
    rfl
  have h2 : stepCall (p6 A en) (sem (p6 A en) ap 3 9) 1 0 (fun _ => 0) (S6 4) = some (0, false, s') := by
    show (match evL (sem (p6 A en) ap 3 8) 3 (t23 A en) L6 0 (S6 4) with
      | none => none
      | some (way, _, v, s') => if way = 2 then some (0, false, s') else some (v, true, s')) = _
    rw [h1]
    rfl
  have h3 : evL (sem (p6 A en) ap 3 10) 3 (t7 A) L6 0 (S6 2) = some (2, L6, 0, s') := by
    show evL (sem (p6 A en) ap 3 10) 3 (.cons 6 0 29 1 .nil 0 0 .nil .nil .nil ((tS A 8).wth .nil)) L6 0 (S6 2) = _
    rw [evL]
    have h : stepSt (sem (p6 A en) ap 3 10) 3 6 0 29 1 .nil 0 0 .nil .nil .nil L6 0 (S6 2) = (match stepCall (p6 A en) (sem (p6 A en) ap 3 9) 1 0 (fun _ => 0) (S6 4) with
      | none => none
      | some (_, false, s1) => some (2, L6, 0, s1)
      | some (a, true, s1) => stepKind (sem (p6 A en) ap 3 10) 6 0 0 0 .nil .nil .nil a L6 0 s1) := rfl
    rw [h, h2]
    rfl
  have h4 : evL (sem (p6 A en) ap 3 11) 3 ((t8 A).wth .nil) L6 0 (s0 100000) = some (2, L6, 0, s') := by
    show evL (sem (p6 A en) ap 3 11) 3 (.cons 4 0 26 1 .nil 0 0 .nil (t7 A) .nil .nil) L6 0 (S6 0) = _
    rw [evL]
    have h : stepSt (sem (p6 A en) ap 3 11) 3 4 0 26 1 .nil 0 0 .nil (t7 A) .nil L6 0 (S6 0) = (match evL (sem (p6 A en) ap 3 10) 3 (t7 A) L6 0 (S6 2) with
      | none => none
      | some (way, L', v', s') => if way = 0 then wh (sem (p6 A en) ap 3 11) 26 1 .nil (t7 A) 2 L' v' s' else some (way, L', v', s')) := rfl
    rw [h, h3]
    rfl
  show (match evL (sem (p6 A en) ap 3 11) 3 ((t8 A).wth .nil) L6 0 (s0 100000) with
    | none => none
    | some (way, _, v, s') => if way = 2 then some (0, false, s') else some (v, true, s')) = _
  rw [h4]
  rfl
/-- What IrEnds asks of its program: its end, and its word. -/
theorem eval6 (A x u : Nat) (en : Sf) (hr : right (p6 A en) = true) (hA : A < 2048) (s' : Rs) (hen : (sem (p6 A en) ap 3 8).lst (en.wth .nil) L6 0 (T6 A 9) = some (2, L6, 0, s')) (hd : s'.dry = false) (hx : s'.exit = x) (hu : s'.used = u) (hm : s'.mem A = 9)
    (w : World) (pv : Value) (ht : Laid.KTab w) (hp : SlP w (fun _ => True) pv (p6 A en)) : Calls Tryd.prog 9 #[pv, .slice none 0 0] w fun e w' => ∃ g c, e = .returned (.tuple #[.agg #[.int .u64 x, .slice (some ⟨g, 0, none⟩) 2048 c, .int .i64 u], .nilIface]) ∧ w'.cell? ⟨g, A, none⟩ = some (.int .u64 9) ∧ Kept (fun _ => False) w w' := by
  have hp2 := hp
  obtain ⟨pa, pc, rfl, _, _⟩ := hp2
  refine (evalL w ht pa _ pc x u (fun g y => (∀ i, i < 2048 → y.cell? ⟨g, i, none⟩ = some (.int .u64 (s'.mem i)))) (fun y sb hk => ?_) (fun g y y' h hk hb i hi => ?_)).mono ?_
  · refine (eval_end 3 12 (p6 A en) hr y _ sb (hp.kept hk fun _ _ => id) 100000 (by decide) _ s' (run6 A en hA s' hen) hd).mono ?_
    rintro e w' ⟨g, c, he, hc, hk2⟩
    rw [hx, hu] at he
    exact ⟨g, c, he, hc, hk2⟩
  · have hne : g ≠ w.heap.size := by
      intro e
      have h5 := h 5 (by decide)
      rw [e] at h5
      simp [World.cell?, hb] at h5
    exact hk.cell hne (h i hi)
  · rintro e w' ⟨g, c, he, h, hk⟩
    refine ⟨g, c, he, ?_, hk⟩
    rw [h A hA, hm]
    rfl
theorem eval6a (A x : Nat) (hA : A < 2048) (w : World) (pv : Value) (ht : Laid.KTab w) (hp : SlP w (fun _ => True) pv (p6 A (e1 x))) : Calls Tryd.prog 9 #[pv, .slice none 0 0] w fun e w' => ∃ g c, e = .returned (.tuple #[.agg #[.int .u64 x, .slice (some ⟨g, 0, none⟩) 2048 c, .int .i64 (11 : Nat)], .nilIface]) ∧ w'.cell? ⟨g, A, none⟩ = some (.int .u64 9) ∧ Kept (fun _ => False) w w' :=
  eval6 A x 11 (e1 x) (right6a A x) hA _ (en1 _ x A) rfl rfl rfl (by show upd (fun _ => 0) A 9 A = 9; unfold upd; rw [if_pos rfl]) w pv ht hp
theorem eval6b (A k : Nat) (hk : 2048 ≤ k) (hA : A < 2048) (w : World) (pv : Value) (ht : Laid.KTab w) (hp : SlP w (fun _ => True) pv (p6 A (e2 k))) : Calls Tryd.prog 9 #[pv, .slice none 0 0] w fun e w' => ∃ g c, e = .returned (.tuple #[.agg #[.int .u64 (18446744073709551614 : Nat), .slice (some ⟨g, 0, none⟩) 2048 c, .int .i64 (12 : Nat)], .nilIface]) ∧ w'.cell? ⟨g, A, none⟩ = some (.int .u64 9) ∧ Kept (fun _ => False) w w' :=
  eval6 A _ 12 (e2 k) (right6b A k) hA _ (en2 _ k A hk) rfl rfl rfl (by show upd (fun _ => 0) A 9 A = 9; unfold upd; rw [if_pos rfl]) w pv ht hp
end Ir
end Go.Proofs.YtcgpdijpppcbiaaDoor
namespace Go.Proofs.YtcgpdijpppcbiaaDoor
open Go.RowKit
set_option linter.unusedVariables false
set_option linter.unusedSimpArgs false
namespace Ir
open Kc
theorem infT10 {a b c d e f g h i j : Value} : (Tryd.prog.info? 29).map (·.size) = some (#[a, b, c, d, e, f, g, h, i, j] : Array Value).size := by kernel_rfl
theorem ldRow {z : World} {q : Nat} {a b c d e f g h i j : Value} (hz : z.heap[q]? = some (.cells #[a, b, c, d, e, f, g, h, i, j] 29 (0, 0))) : (Instr.loadAt 29 (.pointer (some ⟨q, 0, none⟩))).run Tryd.prog z = .ok (.agg #[a, b, c, d, e, f, g, h, i, j]) z :=
  loadT (by simp [World.cell?, hz]) (by simp [World.cell?, hz]) (by simp [World.cell?, hz]) (by simp [World.cell?, hz]) (by simp [World.cell?, hz]) (by simp [World.cell?, hz]) (by simp [World.cell?, hz]) (by simp [World.cell?, hz]) (by simp [World.cell?, hz]) (by simp [World.cell?, hz])
theorem EfAt.all {w : World} {D : Nat → Prop} : ∀ (x : Ef) (b o : Nat), EfAt w D x b o → EfAt w (fun _ => True) x b o
  | .nil, _, _, _ => trivial
  | .cons op n kids rest, b, o, h => by
    obtain ⟨h1, h2, h3, h4, ⟨a, c, h5, hl, h6⟩, h7⟩ := h
    refine ⟨trivial, h2, h3, h4, ⟨a, c, h5, hl, ?_⟩, EfAt.all rest b (o + 3) h7⟩
    rcases h6 with h6 | ⟨b', o', e, h6⟩
    · exact .inl h6
    · exact .inr ⟨b', o', e, EfAt.all kids b' o' h6⟩
theorem SlE.all {w : World} {D : Nat → Prop} {V : Value} {x : Ef} (h : SlE w D V x) : SlE w (fun _ => True) V x := by
  obtain ⟨a, c, rfl, hl, h⟩ := h
  refine ⟨a, c, rfl, hl, ?_⟩
  rcases h with h | ⟨b, o, e, h⟩
  · exact .inl h
  · exact .inr ⟨b, o, e, EfAt.all x b o h⟩
theorem Ac.set0 {W y y' : World} {b : Nat} (h : Ac W [] [] [] [] y) (hk : Kept (fun k => k = b) y y') (hb : W.heap.size ≤ b) : Ac W [] [] [] [] y' :=
  ⟨h.kp.trans hk fun k hk e => by omega, fun _ h => by (cases h), fun _ h => by (cases h), fun _ h => by (cases h), fun _ h => by (cases h)⟩
theorem Ac.addC {W y : World} {L : List (Value × Ef)} {M : List (Value × Sf)} {N : List (Value × List Fn)} {C : List (Nat × Nat × Value)} (h : Ac W L M N C y) {b o : Nat} {v : Value} (hv : y.cell? ⟨b, o, none⟩ = some v) : Ac W L M N ((b, o, v) :: C) y :=
  ⟨h.kp, h.e, h.s, h.f, fun p hp => by rcases List.mem_cons.1 hp with e | hp; (rw [e]; exact hv); exact h.c p hp⟩
theorem eval6al (A x : Nat) (hA : A < 2048) (w : World) (pv : Value) (ht : Laid.KTab w) (hp : SlP w (fun _ => True) pv (p6 A (e1 x))) : Calls Tryd.prog 9 #[pv, .slice none 0 0] w fun e w' => ∃ g c, e = .returned (.tuple #[.agg #[.int .u64 x, .slice (some ⟨g, 0, none⟩) 2048 c, .int .i64 11], .nilIface]) ∧ w'.cell? ⟨g, A, none⟩ = some (.int .u64 9) ∧ Kept (fun _ => False) w w' := eval6a A x hA w pv ht hp
theorem eval6bl (A k : Nat) (hk : 2048 ≤ k) (hA : A < 2048) (w : World) (pv : Value) (ht : Laid.KTab w) (hp : SlP w (fun _ => True) pv (p6 A (e2 k))) : Calls Tryd.prog 9 #[pv, .slice none 0 0] w fun e w' => ∃ g c, e = .returned (.tuple #[.agg #[.int .u64 18446744073709551614, .slice (some ⟨g, 0, none⟩) 2048 c, .int .i64 12], .nilIface]) ∧ w'.cell? ⟨g, A, none⟩ = some (.int .u64 9) ∧ Kept (fun _ => False) w w' := eval6b A k hk hA w pv ht hp
set_option maxHeartbeats 8000000 in
set_option maxRecDepth 100000 in
theorem irEnds_walk (exit at_ : Int) (b : Bool) {w : World} (w0 : (Lit.int .u64 exit).wf = true) (w1 : (Lit.int .u64 at_).wf = true) (ht : Laid.KTab w) : Calls Tryd.prog 4 #[.int .u64 exit, .int .u64 at_, .bool b] w fun e w' => e = .returned (.bool true) ∧ Below w.heap.size w w' := by
  have hX1 : exit ≤ 18446744073709551615 := (of_decide_eq_true (Bool.and_eq_true_iff.1 w0).2)
  obtain ⟨X, rfl⟩ : ∃ n0 : Nat, exit = n0 := ⟨exit.toNat, by have h := (of_decide_eq_true (Bool.and_eq_true_iff.1 w0).1 : 0 ≤ exit); omega⟩
  have hX : X < 18446744073709551616 := by omega
  obtain ⟨A0, rfl⟩ : ∃ n0 : Nat, at_ = n0 := ⟨at_.toNat, by have h := (of_decide_eq_true (Bool.and_eq_true_iff.1 w1).1 : 0 ≤ at_); omega⟩
  obtain ⟨A, hA, hAl⟩ : ∃ N : Nat, N = A0 % 2048 ∧ N < 2048 := ⟨A0 % 2048, rfl, Nat.mod_lt _ (by decide)⟩
  obtain ⟨K, hK, hKl⟩ : ∃ K : Nat, K = 2048 + A0 % 1000 ∧ 2048 ≤ K ∧ K < 4096 := ⟨_, rfl, by omega, by omega⟩
  have HX := Lib.hid hX
  have HN := Lib.hid (And.intro hA hAl)
  have HK := Lib.hid (And.intro hK hKl)
  have HK2 : Hid (K < 18446744073709551616) := Lib.hid (by omega)
  have HT := Lib.hid ht
  have HA := Lib.hid (Ac.start w)
  clear hX hX1 hA hAl hK hKl ht w0 w1
  cases b
  · go_enter Tryd.func4, Tryd.ntmps4
    go_upto_region 2 with (go_at_call 6; (with_reducible refine (constant_walk X _).mono ?_); rintro e y ⟨he, hk⟩; obtain rfl : e = _ := he; have HA := Lib.hid (HA.out.next hk); clear hk)
    have HB := Lib.hid (heap_alloc_last y (.cells #[.int .i64 7, .int .i64 0, .int .i64 26, .int .u64 X, .slice none 0 0, .int .i64 0, .int .u64 0, .slice none 0 0, .slice none 0 0, .slice none 0 0] 29))
    have HA := Lib.hid (HA.out.next (kept_alloc9 y (.cells #[.int .i64 7, .int .i64 0, .int .i64 26, .int .u64 X, .slice none 0 0, .int .i64 0, .int .u64 0, .slice none 0 0, .slice none 0 0, .slice none 0 0] 29)))
    generalize y.heap.size = b7 at *
    generalize y.alloc (.cells #[.int .i64 7, .int .i64 0, .int .i64 26, .int .u64 X, .slice none 0 0, .int .i64 0, .int .u64 0, .slice none 0 0, .slice none 0 0, .slice none 0 0] 29) = y at *
    go_upto_region 6 with (fail)
    have hn : (A0 : Int) % 2048 = (A : Int) := by have := HN.out.1; omega
    rw [hn]
    clear hn
    have HBd := Lib.hid (((kept_drew9 y).block b7 (Array.getElem?_eq_some_iff.1 HB.out).1 id).trans HB.out)
    refine region6 (A := A) (en := e1 X) (q := b7) (E := #[.int .i64 7, .int .i64 0, .int .i64 26, .int .u64 X, .slice none 0 0, .int .i64 0, .int .u64 0, .slice none 0 0, .slice none 0 0, .slice none 0 0]) (W := y.drew) ⟨rfl, rfl, by have := HN.out.2; omega, rfl, fun z hz => ldRow ((hz.block b7 (Array.getElem?_eq_some_iff.1 HBd.out).1 id).trans HBd.out), (show StV y.drew _ (e1 X) from ⟨none, 0, 0, none, 0, 0, none, 0, 0, none, 0, 0, rfl, slEn, slEn, slS0, slS0, HX.out, by decide⟩)⟩ rfl ?_
    intro V g6 y hk6 hp6
    have HA := Lib.hid ((HA.out.next (kept_drew9 _)).next hk6)
    have HP := Lib.hid hp6
    clear hk6 hp6 HB HBd
    simp only [listOf, Nat.reduceAdd, Nat.reduceEqDiff, Nat.reduceLeDiff, Nat.reduceLT, and_true, true_and, and_false, false_and, if_true, if_false, ite_true, ite_false, Array.getD_eq_getD_getElem?, List.getElem?_toArray, List.getElem?_cons_succ, List.getElem?_cons_zero, Option.getD_some]
    have hA1 : A < 2048 := HN.out.2
    have hA2 : ((A : Int) < 2048) := by omega
    go_upto_region 8 with (first
  | (go_at_call 9; (with_reducible refine (eval6al A X HN.out.2 _ V (ktab_kept HT.out HA.out.kp) HP.out).mono ?_); rintro e y ⟨g1, c1, he, hc, hk⟩; obtain rfl : e = _ := he; have HA := Lib.hid ((HA.out.next hk).addC hc); clear hk hc HP)
  | ((with_reducible refine wpList_store_row (P := Tryd.prog) (w := y.alloc (.cells zR 36)) ?_ 36 (.tmp 9) (.tmp 53) ?_ y.heap.size #[.int .u64 X, .slice (some ⟨g1, 0, none⟩) 2048 c1, .int .i64 11] ?_ ?_ 36 zR (heap_alloc_last y _) infRes rfl (by simp [Value.oneCell']) ?_); (· exact rfl); (· exact rfl); (· exact rfl); (· exact rfl); rw [World.setRow_alloc_new]; simp only [Act.put]; have HA := Lib.hid (HA.out.addR (.int .u64 X) (.slice (some ⟨g1, 0, none⟩) 2048 c1) (.int .i64 11) 36); generalize y.heap.size = b9 at *; generalize y.alloc (.cells #[.int .u64 X, .slice (some ⟨g1, 0, none⟩) 2048 c1, .int .i64 11] 36) = y at *))
    go_wp2_with (go_at_call 10; (with_reducible refine (fixed12_walk _ (ktab_kept HT.out HA.out.kp)).mono ?_); rintro e y ⟨he, hk⟩; obtain rfl : e = _ := he; have HA := Lib.hid (HA.out.next hk); have k90 : y.cell? ⟨b9, 0, none⟩ = some (.int .u64 X) := HA.out.c (b9, 0, .int .u64 X) (by simp); have k91 : y.cell? ⟨b9, 1, none⟩ = some (.slice (some ⟨g1, 0, none⟩) 2048 c1) := HA.out.c (b9, 1, .slice (some ⟨g1, 0, none⟩) 2048 c1) (by simp); have k92 : y.cell? ⟨b9, 2, none⟩ = some (.int .i64 11) := HA.out.c (b9, 2, .int .i64 11) (by simp); have k93 : y.cell? ⟨g1, A, none⟩ = some (.int .u64 9) := HA.out.c (g1, A, .int .u64 9) (by simp); clear hk)
    exact bodyPost_ret (v := .bool true) (by simp [results, Tryd.results4, go_sem]) rfl ⟨rfl, HA.out.kp.below (Nat.le_refl _) fun _ _ h => h.elim⟩

  · go_enter Tryd.func4, Tryd.ntmps4
    go_upto_region 2 with (go_at_call 6; (with_reducible refine (constant_walk X _).mono ?_); rintro e y ⟨he, hk⟩; obtain rfl : e = _ := he; have HA := Lib.hid (HA.out.next hk); clear hk)
    have HB := Lib.hid (heap_alloc_last y (.cells #[.int .i64 7, .int .i64 0, .int .i64 26, .int .u64 X, .slice none 0 0, .int .i64 0, .int .u64 0, .slice none 0 0, .slice none 0 0, .slice none 0 0] 29))
    have HW := Lib.hid HA.out.kp.size
    have HA := Lib.hid (HA.out.next (kept_alloc9 y (.cells #[.int .i64 7, .int .i64 0, .int .i64 26, .int .u64 X, .slice none 0 0, .int .i64 0, .int .u64 0, .slice none 0 0, .slice none 0 0, .slice none 0 0] 29)))
    generalize y.heap.size = b7 at *
    generalize y.alloc (.cells #[.int .i64 7, .int .i64 0, .int .i64 26, .int .u64 X, .slice none 0 0, .int .i64 0, .int .u64 0, .slice none 0 0, .slice none 0 0, .slice none 0 0] 29) = y at *
    have hK9 : 2048 + (A0 : Int) % 1000 = (K : Int) := by have := HK.out.1; omega
    go_upto_region 5 with (first
  | (go_at_call 6; (with_reducible refine (constant_walk K _).mono ?_); rintro e y ⟨he, hk⟩; obtain rfl : e = _ := he; have HB := Lib.hid ((hk.block b7 (Array.getElem?_eq_some_iff.1 HB.out).1 id).trans HB.out); have HA := Lib.hid (HA.out.next hk); have HD := Lib.hid (show y.heap.size ≠ b7 from by have := (Array.getElem?_eq_some_iff.1 HB.out).1; omega); clear hk)
  | ((with_reducible refine wpList_build1 (P := Tryd.prog) (w := y) ?_ 23 (.tmp 18) ?_ (.agg #[.int .i64 26, .int .u64 K, .slice none 0 0]) (.slice (some ⟨y.heap.size, 0, none⟩) 1 1) ?_ (y.alloc (.cells #[.int .i64 26, .int .u64 K, .slice none 0 0] 25)) (buildX1 _ _ _ y) ?_); (· exact rfl); (· exact rfl); (· exact rfl); have hk := kept_alloc9 y (.cells #[.int .i64 26, .int .u64 K, .slice none 0 0] 25); have HE := Lib.hid (show SlE (y.alloc (.cells #[.int .i64 26, .int .u64 K, .slice none 0 0] 25)) (fun k => k ≠ b7) (.slice (some ⟨y.heap.size, 0, none⟩) 1 1) (.cons 26 K .nil .nil) from ex1 (D := fun k => k ≠ b7) slEn HD.out HK2.out); have HB := Lib.hid ((hk.block b7 (Array.getElem?_eq_some_iff.1 HB.out).1 id).trans HB.out); have HA := Lib.hid (HA.out.next hk); clear hk; generalize y.heap.size = b19 at *; generalize y.alloc (.cells #[.int .i64 26, .int .u64 K, .slice none 0 0] 25) = y at *)
  | (go_at_call 8; (with_reducible refine (op9_walk 28 _ 1 1 _).mono ?_); rintro e y ⟨he, hk⟩; obtain rfl : e = _ := he; have HB := Lib.hid ((hk.block b7 (Array.getElem?_eq_some_iff.1 HB.out).1 id).trans HB.out); have HE := Lib.hid (HE.out.kept hk fun _ _ => id); have HA := Lib.hid (HA.out.next hk); clear hk)
  | ((with_reducible refine wpList_store_row (P := Tryd.prog) (w := y) ?_ 29 (.tmp 7) (.tmp 21) ?_ b7 #[.int .i64 6, .int .i64 0, .int .i64 28, .int .u64 0, .slice (some ⟨b19, 0, none⟩) 1 1, .int .i64 0, .int .u64 0, .slice none 0 0, .slice none 0 0, .slice none 0 0] ?_ ?_ 29 #[.int .i64 7, .int .i64 0, .int .i64 26, .int .u64 X, .slice none 0 0, .int .i64 0, .int .u64 0, .slice none 0 0, .slice none 0 0, .slice none 0 0] HB.out infT10 rfl (by simp [Value.oneCell']) ?_); (· exact rfl); (· exact rfl); (· exact rfl); (· exact rfl); have hk : Kept (fun k => k = b7) y (y.setRow b7 #[.int .i64 6, .int .i64 0, .int .i64 28, .int .u64 0, .slice (some ⟨b19, 0, none⟩) 1 1, .int .i64 0, .int .u64 0, .slice none 0 0, .slice none 0 0, .slice none 0 0]) := ⟨by simp, by simp, by simp, by simp, fun k hk hn => setRow_other y b7 k _ hn⟩; have HB2 := Lib.hid (setRow_heap y b7 #[.int .i64 7, .int .i64 0, .int .i64 26, .int .u64 X, .slice none 0 0, .int .i64 0, .int .u64 0, .slice none 0 0, .slice none 0 0, .slice none 0 0] #[.int .i64 6, .int .i64 0, .int .i64 28, .int .u64 0, .slice (some ⟨b19, 0, none⟩) 1 1, .int .i64 0, .int .u64 0, .slice none 0 0, .slice none 0 0, .slice none 0 0] 29 (0, 0) HB.out); have HE := Lib.hid ((HE.out.kept hk fun _ h => h).all); have HA := Lib.hid (HA.out.set0 hk HW.out); clear hk HB; generalize y.setRow b7 #[.int .i64 6, .int .i64 0, .int .i64 28, .int .u64 0, .slice (some ⟨b19, 0, none⟩) 1 1, .int .i64 0, .int .u64 0, .slice none 0 0, .slice none 0 0, .slice none 0 0] = y at *))
    go_upto_region 6 with (fail)
    clear hK9
    have hn : (A0 : Int) % 2048 = (A : Int) := by have := HN.out.1; omega
    rw [hn]
    clear hn
    have HBd := Lib.hid (((kept_drew9 y).block b7 (Array.getElem?_eq_some_iff.1 HB2.out).1 id).trans HB2.out)
    refine region6 (A := A) (en := e2 K) (q := b7) (E := #[.int .i64 6, .int .i64 0, .int .i64 28, .int .u64 0, .slice (some ⟨b19, 0, none⟩) 1 1, .int .i64 0, .int .u64 0, .slice none 0 0, .slice none 0 0, .slice none 0 0]) (W := y.drew) ⟨rfl, rfl, by have := HN.out.2; omega, rfl, fun z hz => ldRow ((hz.block b7 (Array.getElem?_eq_some_iff.1 HBd.out).1 id).trans HBd.out), (show StV y.drew _ (e2 K) from ⟨_, _, _, none, 0, 0, none, 0, 0, none, 0, 0, rfl, HE.out.kept (kept_drew9 y) fun _ _ => id, slEn, slS0, slS0, by decide, by decide⟩)⟩ rfl ?_
    intro V g6 y hk6 hp6
    have HA := Lib.hid ((HA.out.next (kept_drew9 _)).next hk6)
    have HP := Lib.hid hp6
    clear hk6 hp6 HB2 HBd
    simp only [listOf, Nat.reduceAdd, Nat.reduceEqDiff, Nat.reduceLeDiff, Nat.reduceLT, and_true, true_and, and_false, false_and, if_true, if_false, ite_true, ite_false, Array.getD_eq_getD_getElem?, List.getElem?_toArray, List.getElem?_cons_succ, List.getElem?_cons_zero, Option.getD_some]
    have hA1 : A < 2048 := HN.out.2
    have hA2 : ((A : Int) < 2048) := by omega
    go_upto_region 8 with (first
  | (go_at_call 9; (with_reducible refine (eval6bl A K HK.out.2.1 HN.out.2 _ V (ktab_kept HT.out HA.out.kp) HP.out).mono ?_); rintro e y ⟨g1, c1, he, hc, hk⟩; obtain rfl : e = _ := he; have HA := Lib.hid ((HA.out.next hk).addC hc); clear hk hc HP)
  | ((with_reducible refine wpList_store_row (P := Tryd.prog) (w := y.alloc (.cells zR 36)) ?_ 36 (.tmp 9) (.tmp 53) ?_ y.heap.size #[.int .u64 18446744073709551614, .slice (some ⟨g1, 0, none⟩) 2048 c1, .int .i64 12] ?_ ?_ 36 zR (heap_alloc_last y _) infRes rfl (by simp [Value.oneCell']) ?_); (· exact rfl); (· exact rfl); (· exact rfl); (· exact rfl); rw [World.setRow_alloc_new]; simp only [Act.put]; have HA := Lib.hid (HA.out.addR (.int .u64 18446744073709551614) (.slice (some ⟨g1, 0, none⟩) 2048 c1) (.int .i64 12) 36); generalize y.heap.size = b9 at *; generalize y.alloc (.cells #[.int .u64 18446744073709551614, .slice (some ⟨g1, 0, none⟩) 2048 c1, .int .i64 12] 36) = y at *))
    go_wp2_with (go_at_call 10; (with_reducible refine (fixed12_walk _ (ktab_kept HT.out HA.out.kp)).mono ?_); rintro e y ⟨he, hk⟩; obtain rfl : e = _ := he; have HA := Lib.hid (HA.out.next hk); have k90 : y.cell? ⟨b9, 0, none⟩ = some (.int .u64 18446744073709551614) := HA.out.c (b9, 0, .int .u64 18446744073709551614) (by simp); have k91 : y.cell? ⟨b9, 1, none⟩ = some (.slice (some ⟨g1, 0, none⟩) 2048 c1) := HA.out.c (b9, 1, .slice (some ⟨g1, 0, none⟩) 2048 c1) (by simp); have k92 : y.cell? ⟨b9, 2, none⟩ = some (.int .i64 12) := HA.out.c (b9, 2, .int .i64 12) (by simp); have k93 : y.cell? ⟨g1, A, none⟩ = some (.int .u64 9) := HA.out.c (g1, A, .int .u64 9) (by simp); clear hk)
    exact bodyPost_ret (v := .bool true) (by simp [results, Tryd.results4, go_sem]) rfl ⟨rfl, HA.out.kp.below (Nat.le_refl _) fun _ _ h => h.elim⟩
end Ir
end Go.Proofs.YtcgpdijpppcbiaaDoor
