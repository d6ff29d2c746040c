/- Merged of Evy. Own work. -/
import Derived.Test.YtcgpdijpppcbiaaDoorP25
import Derived.Laws.MakeOwn
namespace Go.Proofs.YtcgpdijpppcbiaaDoor
open Go.RowKit
set_option linter.unusedVariables false
set_option linter.unusedSimpArgs false
namespace Ir
open Kc
theorem eval3 (w : World) (pv : Value) (sb : Nat) (hp : SlP w (fun _ => True) pv p3) (N : Nat) (hN : N < 5000) : Calls Tryd.prog 12 #[pv, .slice none 0 0, .pointer (some ⟨sb, 0, none⟩), .int .i64 N] w fun e w' => e = .returned (.tuple #[.agg zR, .iface 51 (.int .i64 30)]) ∧ Kept (fun _ => False) w w' := by
  obtain ⟨s', hs, hd⟩ := run3 N
  exact eval_dry (N + 1) 3 p3 right3 w pv sb hp N (by omega) 0 false s' hs hd
theorem make9 (K : Nat) (hK : K < 5000) (w : World) : (Instr.makeSlice 34 (.int .i64 K) (.int .i64 K)).run Tryd.prog w = .ok (.slice (some ⟨w.heap.size, 0, none⟩) K K) (w.alloc (.cells (madeCells (Value.int .u64 0).cells (K * 1)) 22)) := by
  obtain ⟨i0, hi1, hi2, hi3, hi4⟩ := infU
  have h := run_make w 34 22 i0 (.int .u64 0) und64 hi1 hi2 .i64 .i64 K K (by omega) (Int.le_refl _) (by rw [hi4]; omega) (by omega)
  rw [hi3] at h
  simpa using h
theorem mod9 (z : Int) (m : Nat) (hm : 0 < m) (hm2 : m ≤ 5000) : ∃ N : Nat, wrap64 ((IntKind.u64.wrap z).tmod m) = (N : Int) ∧ N < m := by
  obtain ⟨X, hX⟩ : ∃ X : Nat, IntKind.u64.wrap z = X := by
    have : IntKind.u64.wrap z = z % 18446744073709551616 := by simp [IntKind.wrap, IntKind.bits, IntKind.signed]
    exact ⟨(IntKind.u64.wrap z).toNat, by rw [this]; omega⟩
  refine ⟨X % m, ?_, Nat.mod_lt _ hm⟩
  rw [hX, Int.tmod_eq_emod_of_nonneg (by omega)]
  have := Nat.mod_lt X hm
  have e : (X : Int) % (m : Int) = ((X % m : Nat) : Int) := by omega
  rw [e]
  unfold wrap64; omega
set_option maxHeartbeats 8000000 in
set_option maxRecDepth 100000 in
theorem irTooMuch_walk (fuel size : Int) {w : World} (w0 : (Lit.int .i64 fuel).wf = true) (w1 : (Lit.int .i64 size).wf = true) (ht : Laid.KTab w) : Calls Tryd.prog 5 #[.int .i64 fuel, .int .i64 size] w fun e w' => e = .returned (.bool true) ∧ Below w.heap.size w w' := by
  obtain ⟨N, hN, hNl⟩ : ∃ N : Nat, wrap64 ((IntKind.u64.wrap fuel).tmod 5000) = (N : Int) ∧ N < 5000 := mod9 fuel 5000 (by decide) (by decide)
  obtain ⟨M, hM, hMl⟩ : ∃ N : Nat, wrap64 ((IntKind.u64.wrap size).tmod 50) = (N : Int) ∧ N < 50 := mod9 size 50 (by decide) (by decide)
  obtain ⟨K, hK, hKl⟩ : ∃ K : Nat, wrap64 (2049 + (M : Int)) = (K : Int) ∧ 2048 < K ∧ K < 5000 := ⟨2049 + M, by unfold wrap64; omega, by omega, by omega⟩
  have HN := Lib.hid hNl
  have HK := Lib.hid hKl.1
  have hmk := make9 K hKl.2
  have hF : wrap64 (-1 - (N : Int)) = -1 - (N : Int) := by unfold wrap64; omega
  have HNG : Hid (-1 - (N : Int) < 0) := Lib.hid (by omega)
  have HT := Lib.hid ht
  have HA := Lib.hid (Ac.start w)
  have HI2 := Lib.hid (fun y : World => (show Calls Tryd.prog 13 #[.iface 51 (.int .i64 2), .iface 51 (.int .i64 2)] y fun e w' => e = .returned (.bool true) ∧ y = w' from Err.is_num 2 2 y))
  have HI5 := Lib.hid (fun y : World => (show Calls Tryd.prog 13 #[.iface 51 (.int .i64 5), .iface 51 (.int .i64 5)] y fun e w' => e = .returned (.bool true) ∧ y = w' from Err.is_num 5 5 y))
  have HI30 := Lib.hid (fun y : World => (show Calls Tryd.prog 13 #[.iface 51 (.int .i64 30), .iface 51 (.int .i64 30)] y fun e w' => e = .returned (.bool true) ∧ y = w' from Err.is_num 30 30 y))
  generalize madeCells (Value.int .u64 0).cells (K * 1) = mk at *
  clear ht w0 w1 hNl hMl hKl
  go_enter Tryd.func5, Tryd.ntmps5
  go_upto_region 2 with (first
  | (go_at_call 6; (with_reducible refine (cst1 _).mono ?_); rintro e y ⟨he, hk⟩; obtain rfl : e = _ := he; have HA := Lib.hid (HA.out.next hk); clear hk)
  | ((with_reducible refine wpList_build1 (P := Tryd.prog) (w := y) ?_ 27 (.tmp 15) ?_ (.agg #[.int .i64 4, .int .i64 0, .int .i64 26, .int .u64 1, .slice none 0 0, .int .i64 0, .int .u64 0, .slice none 0 0, .slice none 0 0, .slice none 0 0]) (.slice (some ⟨y.heap.size, 0, none⟩) 1 1) ?_ (y.alloc (.cells #[.int .i64 4, .int .i64 0, .int .i64 26, .int .u64 1, .slice none 0 0, .int .i64 0, .int .u64 0, .slice none 0 0, .slice none 0 0, .slice none 0 0] 29)) (buildS1 _ _ _ _ _ _ _ _ _ _ y) ?_); (· exact rfl); (· exact rfl); (· exact rfl); have HA := Lib.hid (HA.out.addS (kept_alloc9 y _) (show SlS (y.alloc (.cells #[.int .i64 4, .int .i64 0, .int .i64 26, .int .u64 1, .slice none 0 0, .int .i64 0, .int .u64 0, .slice none 0 0, .slice none 0 0, .slice none 0 0] 29)) (fun _ => True) (.slice (some ⟨y.heap.size, 0, none⟩) 1 1) (.cons 4 0 26 1 .nil 0 0 .nil .nil .nil .nil) from sx1 (D := fun _ => True) trivial slEn slEn slS0 slS0 (by decide) (by decide))); generalize y.heap.size = b16 at *; generalize y.alloc (.cells #[.int .i64 4, .int .i64 0, .int .i64 26, .int .u64 1, .slice none 0 0, .int .i64 0, .int .u64 0, .slice none 0 0, .slice none 0 0, .slice none 0 0] 29) = y at *)
  | ((with_reducible refine wpList_build1 (P := Tryd.prog) (w := y) ?_ 33 (.tmp 17) ?_ (.agg #[.int .i64 0, .int .i64 0, .slice (some ⟨b16, 0, none⟩) 1 1]) (.slice (some ⟨y.heap.size, 0, none⟩) 1 1) ?_ (y.alloc (.cells #[.int .i64 0, .int .i64 0, .slice (some ⟨b16, 0, none⟩) 1 1] 32)) (buildF1 _ _ _ y) ?_); (· exact rfl); (· exact rfl); (· exact rfl); have HA := Lib.hid (HA.out.addF (kept_alloc9 y _) (show SlP (y.alloc (.cells #[.int .i64 0, .int .i64 0, .slice (some ⟨b16, 0, none⟩) 1 1] 32)) (fun _ => True) (.slice (some ⟨y.heap.size, 0, none⟩) 1 1) (p3) from fx1 HA.out.st1)); generalize y.heap.size = b18 at *; generalize y.alloc (.cells #[.int .i64 0, .int .i64 0, .slice (some ⟨b16, 0, none⟩) 1 1] 32) = y at *))
  go_upto_region 3 with (go_at_call 11; (with_reducible refine (stores9 _ (ktab_kept HT.out HA.out.kp)).mono ?_); rintro e y ⟨sb, rb, he, hk⟩; obtain rfl : e = _ := he; have HA := Lib.hid (HA.out.next hk); clear hk)
  go_upto_region 4 with (fail)
  go_upto_region 5 with (first
  | (go_at_call 12; (with_reducible refine (eval3 _ _ sb HA.out.pr1 N HN.out).mono ?_); rintro e y ⟨he, hk⟩; obtain rfl : e = _ := he; have HA := Lib.hid (HA.out.next hk); clear hk)
  | ((with_reducible refine wpList_store_row (P := Tryd.prog) (w := y.alloc (.cells zR 36)) ?_ 36 (.tmp 8) (.tmp 32) ?_ y.heap.size #[.int .u64 0, .slice none 0 0, .int .i64 0] ?_ ?_ 36 zR (heap_alloc_last y _) infRes rfl (by simp [Value.oneCell']) ?_); (· exact rfl); (· exact rfl); (· exact rfl); (· exact rfl); rw [World.setRow_alloc_new]; simp only [Act.put]; have HA := Lib.hid (HA.out.addR (.int .u64 0) (.slice none 0 0) (.int .i64 0) 36); generalize y.heap.size = b8 at *; generalize y.alloc (.cells #[.int .u64 0, .slice none 0 0, .int .i64 0] 36) = y at *))
  go_upto_region 6 with (first
  | (go_at_call 12; have HB := HA.out.next (kept_alloc9 y (.cells mk 22)); (with_reducible refine (eval_full p3 right3 _ _ _ sb HB.pr1.lt (fun _ h => h) _ K _ _ HK.out).mono ?_); rintro e y ⟨he, hk⟩; obtain rfl : e = _ := he; have HA := Lib.hid (HB.next hk); clear hk HB)
  | ((with_reducible refine wpList_store_row (P := Tryd.prog) (w := y.alloc (.cells zR 36)) ?_ 36 (.tmp 10) (.tmp 45) ?_ y.heap.size #[.int .u64 0, .slice none 0 0, .int .i64 0] ?_ ?_ 36 zR (heap_alloc_last y _) infRes rfl (by simp [Value.oneCell']) ?_); (· exact rfl); (· exact rfl); (· exact rfl); (· exact rfl); rw [World.setRow_alloc_new]; simp only [Act.put]; have HA := Lib.hid (HA.out.addR (.int .u64 0) (.slice none 0 0) (.int .i64 0) 36); generalize y.heap.size = b10 at *; generalize y.alloc (.cells #[.int .u64 0, .slice none 0 0, .int .i64 0] 36) = y at *))
  clear hmk
  go_upto_region 7 with (first
  | (go_at_call 12; (with_reducible refine (eval_neg p3 right3 _ _ _ sb HA.out.pr1.lt (fun _ h => h) _ HNG.out).mono ?_); rintro e y ⟨he, hk⟩; obtain rfl : e = _ := he; have HA := Lib.hid (HA.out.next hk); clear hk)
  | ((with_reducible refine wpList_store_row (P := Tryd.prog) (w := y.alloc (.cells zR 36)) ?_ 36 (.tmp 12) (.tmp 53) ?_ y.heap.size #[.int .u64 0, .slice none 0 0, .int .i64 0] ?_ ?_ 36 zR (heap_alloc_last y _) infRes rfl (by simp [Value.oneCell']) ?_); (· exact rfl); (· exact rfl); (· exact rfl); (· exact rfl); rw [World.setRow_alloc_new]; simp only [Act.put]; have HA := Lib.hid (HA.out.addR (.int .u64 0) (.slice none 0 0) (.int .i64 0) 36); generalize y.heap.size = b12 at *; generalize y.alloc (.cells #[.int .u64 0, .slice none 0 0, .int .i64 0] 36) = y at *))
  go_wp2_with (first
  | (go_at_call 10; (with_reducible refine (fixed12_walk _ (ktab_kept HT.out HA.out.kp)).mono ?_); rintro e y ⟨he, hk⟩; obtain rfl : e = _ := he; have HA := Lib.hid (HA.out.next hk); have k80 : y.cell? ⟨b8, 0, none⟩ = some (.int .u64 0) := HA.out.c (b8, 0, .int .u64 0) (by simp); have k81 : y.cell? ⟨b8, 1, none⟩ = some (.slice none 0 0) := HA.out.c (b8, 1, .slice none 0 0) (by simp); have k82 : y.cell? ⟨b8, 2, none⟩ = some (.int .i64 0) := HA.out.c (b8, 2, .int .i64 0) (by simp); clear hk)
  | (go_at_call 13; (with_reducible refine (HI30.out _).mono ?_); rintro e y ⟨he, hk⟩; obtain rfl : e = _ := he; subst hk)
  | (go_at_call 13; (with_reducible refine (HI5.out _).mono ?_); rintro e y ⟨he, hk⟩; obtain rfl : e = _ := he; subst hk)
  | (go_at_call 13; (with_reducible refine (HI2.out _).mono ?_); rintro e y ⟨he, hk⟩; obtain rfl : e = _ := he; subst hk))
  exact bodyPost_ret (v := .bool true) (by simp [results, Tryd.results5, go_sem]) rfl ⟨rfl, HA.out.kp.below (Nat.le_refl _) fun _ _ h => h.elim⟩
end Ir
end Go.Proofs.YtcgpdijpppcbiaaDoor
