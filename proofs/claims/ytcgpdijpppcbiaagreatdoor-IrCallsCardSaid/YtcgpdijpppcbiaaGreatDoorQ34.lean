/- Merged of Exf. Own work. -/
import Derived.Test.YtcgpdijpppcbiaaGreatDoorQ33
import Derived.Test.YtcgpdijpppcbiaaGreatDoorQ32
namespace Go.Proofs.YtcgpdijpppcbiaaGreatDoor
open Go.RowKit
set_option linter.unusedVariables false
set_option linter.unusedSimpArgs false
namespace Ir
open Kc
theorem lK0 (w : World) : Calls Tryz.prog 7 #[.int .u64 0] w fun e w' => e = .returned (.agg #[.int .i64 27, .int .u64 0, .slice none 0 0]) ∧ Kept (fun _ => False) w w' := local9_walk 0 w
theorem lK1 (w : World) : Calls Tryz.prog 7 #[.int .u64 1] w fun e w' => e = .returned (.agg #[.int .i64 27, .int .u64 1, .slice none 0 0]) ∧ Kept (fun _ => False) w w' := local9_walk 1 w
theorem lK2 (w : World) : Calls Tryz.prog 7 #[.int .u64 2] w fun e w' => e = .returned (.agg #[.int .i64 27, .int .u64 2, .slice none 0 0]) ∧ Kept (fun _ => False) w w' := local9_walk 2 w
theorem lK4 (w : World) : Calls Tryz.prog 7 #[.int .u64 4] w fun e w' => e = .returned (.agg #[.int .i64 27, .int .u64 4, .slice none 0 0]) ∧ Kept (fun _ => False) w w' := local9_walk 4 w
theorem cK77 (w : World) : Calls Tryz.prog 9 #[.int .u64 77] w fun e w' => e = .returned (.agg #[.int .i64 26, .int .u64 77, .slice none 0 0]) ∧ Kept (fun _ => False) w w' := constant_walk 77 w
theorem cut3 {y : World} {n : Nat} (hn : n = 1 ∨ n = 2 ∨ n = 3) {b : Nat} (h : SlE y (fun _ => True) (.slice (some ⟨b, 0, none⟩) 3 3) ar3) : SlE y (fun _ => True) (.slice (some ⟨b, 0, none⟩) n 3) (ars n) := by
  obtain ⟨a, c, e, hl, h⟩ := h
  injection e with e1 e2 e3
  subst e1
  rcases h with h | ⟨b', o', e, h⟩
  · cases h
  · cases e
    obtain ⟨h1, h2, h3, h4, h5, h6, h7, h8, h9, h10, h11⟩ := h
    rcases hn with rfl | rfl | rfl
    · exact ⟨_, 3, rfl, by decide, .inr ⟨b, 0, rfl, h1, h2, h3, h4, h5, trivial⟩⟩
    · exact ⟨_, 3, rfl, by decide, .inr ⟨b, 0, rfl, h1, h2, h3, h4, h5, h6, h7, h8, h9, h10, trivial⟩⟩
    · exact ⟨_, 3, rfl, by decide, .inr ⟨b, 0, rfl, h1, h2, h3, h4, h5, h6, h7, h8, h9, h10, h11⟩⟩
theorem ldFn {z : World} {q : Nat} {a b c : Value} (hz : z.heap[q]? = some (.cells #[a, b, c] 37 (0, 0))) : (Instr.loadAt 37 (.pointer (some ⟨q, 0, none⟩))).run Tryz.prog z = .ok (.agg #[a, b, c]) z := by
  refine run_loadAt_mid z q 0 _ [a, b, c] _ (fun i v hv => ?_) undF rfl (by rw [infF]; rfl)
  match i, hv with
  | 0, hv => cases hv; simp [World.cell?, hz]
  | 1, hv => cases hv; simp [World.cell?, hz]
  | 2, hv => cases hv; simp [World.cell?, hz]
  | i + 3, hv => simp at hv
theorem ldEx {z : World} {q : Nat} {a b c : Value} (hz : z.heap[q]? = some (.cells #[a, b, c] 30 (0, 0))) : (Instr.loadAt 30 (.pointer (some ⟨q, 0, none⟩))).run Tryz.prog z = .ok (.agg #[a, b, c]) z := loadX (by simp [World.cell?, hz]) (by simp [World.cell?, hz]) (by simp [World.cell?, hz])
theorem mod25 (z : Int) : ∃ N : Nat, wrap64 ((IntKind.u64.wrap z).tmod 25) = (N : Int) ∧ N < 25 := by
  obtain ⟨X, hX⟩ : ∃ X : Nat, IntKind.u64.wrap z = X := by
    have : IntKind.u64.wrap z = z % 18446744073709551616 := by simp [IntKind.wrap, IntKind.bits, IntKind.signed]
    exact ⟨(IntKind.u64.wrap z).toNat, by rw [this]; omega⟩
  refine ⟨X % 25, ?_, Nat.mod_lt _ (by decide)⟩
  rw [hX, Int.tmod_eq_emod_of_nonneg (by omega)]
  have := Nat.mod_lt X (by decide : 0 < 25)
  have e : (X : Int) % (25 : Int) = ((X % 25 : Nat) : Int) := by omega
  rw [e]
  unfold wrap64; omega
theorem fK_body {K n : Nat} (h : arN K = n) : (fK K).body = .cons 1 4 1 0 (.cons 27 4 .nil (.cons K 0 (ars n) .nil)) 0 0 .nil .nil .nil (.cons 1 0 26 77 .nil 0 0 .nil .nil .nil (.cons 5 0 27 4 .nil 0 0 .nil .nil .nil .nil)) := by
  unfold fK
  rw [h]
theorem argN_eq {k : Nat} (h1 : 1 ≤ k) (h25 : k ≤ 25) : W1.argN (k : Int) = (arN k : Int) ∧ W1.argE (k : Int) = 0 := by
  rcases k_in h1 h25 with rfl | rfl | rfl | rfl | rfl | rfl | rfl | rfl | rfl | rfl | rfl | rfl | rfl | rfl | rfl | rfl | rfl | rfl | rfl | rfl | rfl | rfl | rfl | rfl | rfl <;> exact ⟨rfl, rfl⟩
theorem eval7l (k a b c : Nat) (h1 : 1 ≤ k) (h25 : k ≤ 25) (ha : a < 18446744073709551616) (hb : b < 18446744073709551616) (hc : c < 18446744073709551616) (w : World) (pv : Value) (ht : Laid.KTab w) (hp : SlP w (fun _ => True) pv (p7 k a b c)) : Calls Tryz.prog 10 #[pv, .slice none 0 0] w fun e w' => ∃ (g c1 u : Nat), e = .returned (.tuple #[.agg #[.int .u64 0, .slice (some ⟨g, 0, none⟩) 2048 c1, .int .i64 u], .nilIface]) ∧ w'.cell? ⟨g, 5, none⟩ = some (.int .u64 a) ∧ Kept (fun _ => False) w w' := eval7 k a b c h1 h25 ha hb hc w pv ht hp
theorem Ac.addC {W y : World} {L : List (Value × Ef)} {M : List (Value × Sf)} {N : List (Value × List Fn)} {C : List (Nat × Nat × Value)} (h : Ac W L M N C y) {b o : Nat} {v : Value} (hv : y.cell? ⟨b, o, none⟩ = some v) : Ac W L M N ((b, o, v) :: C) y :=
  ⟨h.kp, h.e, h.s, h.f, fun p hp => by rcases List.mem_cons.1 hp with e | hp; (rw [e]; exact hv); exact h.c p hp⟩
set_option maxHeartbeats 8000000 in
set_option maxRecDepth 100000 in
theorem irCalls_walk (k a b c : Int) {w : World} (w0 : (Lit.int .i64 k).wf = true) (w1 : (Lit.int .u64 a).wf = true) (w2 : (Lit.int .u64 b).wf = true) (w3 : (Lit.int .u64 c).wf = true) (ht : Laid.KTab w) : Calls Tryz.prog 3 #[.int .i64 k, .int .u64 a, .int .u64 b, .int .u64 c] w fun e w' => e = .returned (.bool true) ∧ Below w.heap.size w w' := by
  have u1 : a ≤ 18446744073709551615 := (of_decide_eq_true (Bool.and_eq_true_iff.1 w1).2)
  have u2 : b ≤ 18446744073709551615 := (of_decide_eq_true (Bool.and_eq_true_iff.1 w2).2)
  have u3 : c ≤ 18446744073709551615 := (of_decide_eq_true (Bool.and_eq_true_iff.1 w3).2)
  obtain ⟨A, rfl⟩ : ∃ n0 : Nat, a = n0 := ⟨a.toNat, by have h := (of_decide_eq_true (Bool.and_eq_true_iff.1 w1).1 : 0 ≤ a); omega⟩
  obtain ⟨B, rfl⟩ : ∃ n0 : Nat, b = n0 := ⟨b.toNat, by have h := (of_decide_eq_true (Bool.and_eq_true_iff.1 w2).1 : 0 ≤ b); omega⟩
  obtain ⟨C, rfl⟩ : ∃ n0 : Nat, c = n0 := ⟨c.toNat, by have h := (of_decide_eq_true (Bool.and_eq_true_iff.1 w3).1 : 0 ≤ c); omega⟩
  obtain ⟨M, hM, hMl⟩ := mod25 k
  obtain ⟨K, hK, hK1, hK25⟩ : ∃ K : Nat, wrap64 (1 + (M : Int)) = (K : Int) ∧ 1 ≤ K ∧ K ≤ 25 := ⟨1 + M, by unfold wrap64; omega, by omega, by omega⟩
  have HAR := Lib.hid (W1.refArgs_any (K : Int))
  rw [(argN_eq hK1 hK25).1, (argN_eq hK1 hK25).2] at HAR
  have HAB : Hid (A < 18446744073709551616 ∧ B < 18446744073709551616 ∧ C < 18446744073709551616) := Lib.hid ⟨by omega, by omega, by omega⟩
  have HRF := Lib.hid (W1.apx_ok K A B C hK1 hK25 HAB.out.1 HAB.out.2.1 HAB.out.2.2).2
  rw [show (W1.apx K A B C).toNat = ap K A B C from rfl] at HRF
  unfold W1.Ref at HRF
  obtain ⟨n, hn⟩ : ∃ n, arN K = n := ⟨_, rfl⟩
  obtain ⟨v, hv⟩ : ∃ v, ap K A B C = v := ⟨_, rfl⟩
  rw [hn] at HAR
  rw [hv] at HRF
  have hn3 : n = 1 ∨ n = 2 ∨ n = 3 := by rw [← hn]; exact arN_in K
  have HK := Lib.hid (And.intro hK1 (And.intro hK25 (And.intro hn3 (And.intro hn hv))))
  have hn0 : (n : Int) ≤ 3 := by omega
  have hn1 : n ≤ 3 := by omega
  have HT := Lib.hid ht
  have HA := Lib.hid (Ac.start w)
  clear u1 u2 u3 w0 w1 w2 w3 ht hMl hK1 hK25 hn hv hn3
  go_enter Tryz.func3, Tryz.ntmps3
  go_upto_region 4 with (first
  | (go_at_call 5; (with_reducible refine (HAR.out _).mono ?_); rintro e y ⟨he, hw⟩; obtain rfl : e = _ := he; subst hw)
  | (go_at_call 6; (with_reducible refine (HRF.out _).mono ?_); rintro e y ⟨he, hw⟩; obtain rfl : e = _ := he; subst hw))
  go_upto_region 5 with (first
  | (go_at_call 7; (with_reducible refine (lK0 _).mono ?_); rintro e y ⟨he, hk⟩; obtain rfl : e = _ := he; have HA := Lib.hid (HA.out.next hk); clear hk)
  | (go_at_call 7; (with_reducible refine (lK1 _).mono ?_); rintro e y ⟨he, hk⟩; obtain rfl : e = _ := he; have HA := Lib.hid (HA.out.next hk); clear hk)
  | (go_at_call 7; (with_reducible refine (lK2 _).mono ?_); rintro e y ⟨he, hk⟩; obtain rfl : e = _ := he; have HA := Lib.hid (HA.out.next hk); clear hk)
  | ((with_reducible refine wpList_buildThree (P := Tryz.prog) (w := y) ?_ 28 (.tmp 39) (.tmp 40) (.tmp 41) ?_ (.agg #[.int .i64 27, .int .u64 0, .slice none 0 0]) (.agg #[.int .i64 27, .int .u64 1, .slice none 0 0]) (.agg #[.int .i64 27, .int .u64 2, .slice none 0 0]) (.slice (some ⟨y.heap.size, 0, none⟩) 3 3) ?_ ?_ ?_ (y.alloc (.cells #[.int .i64 27, .int .u64 0, .slice none 0 0, .int .i64 27, .int .u64 1, .slice none 0 0, .int .i64 27, .int .u64 2, .slice none 0 0] 30)) (buildX3 _ _ _ _ _ _ _ _ _ y) ?_); (· exact rfl); (· exact rfl); (· exact rfl); (· exact rfl); (· exact rfl); have HA := Lib.hid (HA.out.addE (kept_alloc9 y _) (show SlE (y.alloc (.cells #[.int .i64 27, .int .u64 0, .slice none 0 0, .int .i64 27, .int .u64 1, .slice none 0 0, .int .i64 27, .int .u64 2, .slice none 0 0] 30)) (fun _ => True) (.slice (some ⟨y.heap.size, 0, none⟩) 3 3) (ar3) from ex3 (D := fun _ => True) slEn slEn slEn trivial (by decide) (by decide) (by decide))); generalize y.heap.size = b42 at *; generalize y.alloc (.cells #[.int .i64 27, .int .u64 0, .slice none 0 0, .int .i64 27, .int .u64 1, .slice none 0 0, .int .i64 27, .int .u64 2, .slice none 0 0] 30) = y at *))
  have HA := Lib.hid (HA.out.addE (Kept.refl _ _) (cut3 HK.out.2.2.1 HA.out.at1))
  go_upto_region 6 with (first
  | (go_at_call 7; (with_reducible refine (lK4 _).mono ?_); rintro e y ⟨he, hk⟩; obtain rfl : e = _ := he; have HA := Lib.hid (HA.out.next hk); clear hk)
  | (go_at_call 8; (with_reducible refine (op9_walk K _ n 3 _).mono ?_); rintro e y ⟨he, hk⟩; obtain rfl : e = _ := he; have HA := Lib.hid (HA.out.next hk); clear hk)
  | ((with_reducible refine wpList_buildTwo (P := Tryz.prog) (w := y) ?_ 28 (.tmp 45) (.tmp 48) ?_ (.agg #[.int .i64 27, .int .u64 4, .slice none 0 0]) (.agg #[.int .i64 K, .int .u64 0, .slice (some ⟨b42, 0, none⟩) n 3]) (.slice (some ⟨y.heap.size, 0, none⟩) 2 2) ?_ ?_ (y.alloc (.cells #[.int .i64 27, .int .u64 4, .slice none 0 0, .int .i64 K, .int .u64 0, .slice (some ⟨b42, 0, none⟩) n 3] 30)) (buildX2 _ _ _ _ _ _ y) ?_); (· exact rfl); (· exact rfl); (· exact rfl); (· exact rfl); have HA := Lib.hid (HA.out.addE (kept_alloc9 y _) (show SlE (y.alloc (.cells #[.int .i64 27, .int .u64 4, .slice none 0 0, .int .i64 K, .int .u64 0, .slice (some ⟨b42, 0, none⟩) n 3] 30)) (fun _ => True) (.slice (some ⟨y.heap.size, 0, none⟩) 2 2) (.cons 27 4 .nil (.cons K 0 (ars n) .nil)) from ex2 (D := fun _ => True) slEn HA.out.at1 trivial (by decide) (by decide))); generalize y.heap.size = b49 at *; generalize y.alloc (.cells #[.int .i64 27, .int .u64 4, .slice none 0 0, .int .i64 K, .int .u64 0, .slice (some ⟨b42, 0, none⟩) n 3] 30) = y at *)
  | (go_at_call 8; (with_reducible refine (op9_walk 1 _ 2 2 _).mono ?_); rintro e y ⟨he, hk⟩; obtain rfl : e = _ := he; have HA := Lib.hid (HA.out.next hk); clear hk)
  | (go_at_call 9; (with_reducible refine (cK77 _).mono ?_); rintro e y ⟨he, hk⟩; obtain rfl : e = _ := he; have HA := Lib.hid (HA.out.next hk); clear hk)
  | ((with_reducible refine wpList_buildThree (P := Tryz.prog) (w := y) ?_ 33 (.tmp 51) (.tmp 53) (.tmp 55) ?_ (.agg #[.int .i64 1, .int .i64 4, .int .i64 1, .int .u64 0, .slice (some ⟨b49, 0, none⟩) 2 2, .int .i64 0, .int .u64 0, .slice none 0 0, .slice none 0 0, .slice none 0 0]) (.agg #[.int .i64 1, .int .i64 0, .int .i64 26, .int .u64 77, .slice none 0 0, .int .i64 0, .int .u64 0, .slice none 0 0, .slice none 0 0, .slice none 0 0]) (.agg #[.int .i64 5, .int .i64 0, .int .i64 27, .int .u64 4, .slice none 0 0, .int .i64 0, .int .u64 0, .slice none 0 0, .slice none 0 0, .slice none 0 0]) (.slice (some ⟨y.heap.size, 0, none⟩) 3 3) ?_ ?_ ?_ (y.alloc (.cells #[.int .i64 1, .int .i64 4, .int .i64 1, .int .u64 0, .slice (some ⟨b49, 0, none⟩) 2 2, .int .i64 0, .int .u64 0, .slice none 0 0, .slice none 0 0, .slice none 0 0, .int .i64 1, .int .i64 0, .int .i64 26, .int .u64 77, .slice none 0 0, .int .i64 0, .int .u64 0, .slice none 0 0, .slice none 0 0, .slice none 0 0, .int .i64 5, .int .i64 0, .int .i64 27, .int .u64 4, .slice none 0 0, .int .i64 0, .int .u64 0, .slice none 0 0, .slice none 0 0, .slice none 0 0] 35)) (buildS3 _ _ _ _ _ _ _ _ _ _ _ _ _ _ _ _ _ _ _ _ _ _ _ _ _ _ _ _ _ _ y) ?_); (· exact rfl); (· exact rfl); (· exact rfl); (· exact rfl); (· exact rfl); have HA := Lib.hid (HA.out.addS (kept_alloc9 y _) (show SlS (y.alloc (.cells #[.int .i64 1, .int .i64 4, .int .i64 1, .int .u64 0, .slice (some ⟨b49, 0, none⟩) 2 2, .int .i64 0, .int .u64 0, .slice none 0 0, .slice none 0 0, .slice none 0 0, .int .i64 1, .int .i64 0, .int .i64 26, .int .u64 77, .slice none 0 0, .int .i64 0, .int .u64 0, .slice none 0 0, .slice none 0 0, .slice none 0 0, .int .i64 5, .int .i64 0, .int .i64 27, .int .u64 4, .slice none 0 0, .int .i64 0, .int .u64 0, .slice none 0 0, .slice none 0 0, .slice none 0 0] 35)) (fun _ => True) (.slice (some ⟨y.heap.size, 0, none⟩) 3 3) (.cons 1 4 1 0 (.cons 27 4 .nil (.cons K 0 (ars n) .nil)) 0 0 .nil .nil .nil (.cons 1 0 26 77 .nil 0 0 .nil .nil .nil (.cons 5 0 27 4 .nil 0 0 .nil .nil .nil .nil))) from sx3 (D := fun _ => True) trivial HA.out.at1 slEn slS0 slS0 (by decide) (by decide) slEn slEn slS0 slS0 (by decide) (by decide) slEn slEn slS0 slS0 (by decide) (by decide))); generalize y.heap.size = b56 at *; generalize y.alloc (.cells #[.int .i64 1, .int .i64 4, .int .i64 1, .int .u64 0, .slice (some ⟨b49, 0, none⟩) 2 2, .int .i64 0, .int .u64 0, .slice none 0 0, .slice none 0 0, .slice none 0 0, .int .i64 1, .int .i64 0, .int .i64 26, .int .u64 77, .slice none 0 0, .int .i64 0, .int .u64 0, .slice none 0 0, .slice none 0 0, .slice none 0 0, .int .i64 5, .int .i64 0, .int .i64 27, .int .u64 4, .slice none 0 0, .int .i64 0, .int .u64 0, .slice none 0 0, .slice none 0 0, .slice none 0 0] 35) = y at *))
  have H14 := Lib.hid (heap_alloc_last y (.cells #[.int .i64 3, .int .i64 5, .slice (some ⟨b56, 0, none⟩) 3 3] 37))
  have HF := Lib.hid (show FnV (y.alloc (.cells #[.int .i64 3, .int .i64 5, .slice (some ⟨b56, 0, none⟩) 3 3] 37)) (.agg #[.int .i64 3, .int .i64 5, .slice (some ⟨b56, 0, none⟩) 3 3]) (fK K) from ⟨_, _, _, rfl, by rw [fK_body HK.out.2.2.2.1]; exact HA.out.st1.kept (kept_alloc9 y _) fun _ _ => id⟩)
  have HA := Lib.hid (HA.out.next (kept_alloc9 y (.cells #[.int .i64 3, .int .i64 5, .slice (some ⟨b56, 0, none⟩) 3 3] 37)))
  generalize y.heap.size = b14 at *
  generalize y.alloc (.cells #[.int .i64 3, .int .i64 5, .slice (some ⟨b56, 0, none⟩) 3 3] 37) = y at *
  clear HF
  go_upto_region 7 with (first
  | (go_at_call 7; (with_reducible refine (lK0 _).mono ?_); rintro e y ⟨he, hk⟩; obtain rfl : e = _ := he; have H14 := Lib.hid ((hk.block b14 (Array.getElem?_eq_some_iff.1 H14.out).1 id).trans H14.out); have HA := Lib.hid (HA.out.next hk); clear hk)
  | (go_at_call 7; (with_reducible refine (lK1 _).mono ?_); rintro e y ⟨he, hk⟩; obtain rfl : e = _ := he; have H14 := Lib.hid ((hk.block b14 (Array.getElem?_eq_some_iff.1 H14.out).1 id).trans H14.out); have HA := Lib.hid (HA.out.next hk); clear hk)
  | (go_at_call 9; (with_reducible refine (constant_walk B _).mono ?_); rintro e y ⟨he, hk⟩; obtain rfl : e = _ := he; have H14 := Lib.hid ((hk.block b14 (Array.getElem?_eq_some_iff.1 H14.out).1 id).trans H14.out); have HA := Lib.hid (HA.out.next hk); clear hk)
  | ((with_reducible refine wpList_buildThree (P := Tryz.prog) (w := y) ?_ 28 (.tmp 58) (.tmp 60) (.tmp 61) ?_ (.agg #[.int .i64 27, .int .u64 0, .slice none 0 0]) (.agg #[.int .i64 26, .int .u64 B, .slice none 0 0]) (.agg #[.int .i64 27, .int .u64 1, .slice none 0 0]) (.slice (some ⟨y.heap.size, 0, none⟩) 3 3) ?_ ?_ ?_ (y.alloc (.cells #[.int .i64 27, .int .u64 0, .slice none 0 0, .int .i64 26, .int .u64 B, .slice none 0 0, .int .i64 27, .int .u64 1, .slice none 0 0] 30)) (buildX3 _ _ _ _ _ _ _ _ _ y) ?_); (· exact rfl); (· exact rfl); (· exact rfl); (· exact rfl); (· exact rfl); have H14 := Lib.hid (((kept_alloc9 y (.cells #[.int .i64 27, .int .u64 0, .slice none 0 0, .int .i64 26, .int .u64 B, .slice none 0 0, .int .i64 27, .int .u64 1, .slice none 0 0] 30)).block b14 (Array.getElem?_eq_some_iff.1 H14.out).1 id).trans H14.out); have HA := Lib.hid (HA.out.addE (kept_alloc9 y _) (show SlE (y.alloc (.cells #[.int .i64 27, .int .u64 0, .slice none 0 0, .int .i64 26, .int .u64 B, .slice none 0 0, .int .i64 27, .int .u64 1, .slice none 0 0] 30)) (fun _ => True) (.slice (some ⟨y.heap.size, 0, none⟩) 3 3) (callX B) from ex3 (D := fun _ => True) slEn slEn slEn trivial (by decide) HAB.out.2.1 (by decide))); generalize y.heap.size = b62 at *; generalize y.alloc (.cells #[.int .i64 27, .int .u64 0, .slice none 0 0, .int .i64 26, .int .u64 B, .slice none 0 0, .int .i64 27, .int .u64 1, .slice none 0 0] 30) = y at *))
  have H15 := Lib.hid (heap_alloc_last y (.cells #[.int .i64 29, .int .u64 1, .slice (some ⟨b62, 0, none⟩) 3 3] 30))
  have H14 := Lib.hid (((kept_alloc9 y (.cells #[.int .i64 29, .int .u64 1, .slice (some ⟨b62, 0, none⟩) 3 3] 30)).block b14 (Array.getElem?_eq_some_iff.1 H14.out).1 id).trans H14.out)
  have HA := Lib.hid (HA.out.next (kept_alloc9 y (.cells #[.int .i64 29, .int .u64 1, .slice (some ⟨b62, 0, none⟩) 3 3] 30)))
  generalize y.heap.size = b15 at *
  generalize y.alloc (.cells #[.int .i64 29, .int .u64 1, .slice (some ⟨b62, 0, none⟩) 3 3] 30) = y at *
  have H14d := Lib.hid (((kept_drew9 y).block b14 (Array.getElem?_eq_some_iff.1 H14.out).1 id).trans H14.out)
  have H15d := Lib.hid (((kept_drew9 y).block b15 (Array.getElem?_eq_some_iff.1 H15.out).1 id).trans H15.out)
  refine region7 (k := K) (a9 := A) (b := B) (c := C) (q15 := b15) (E15 := #[.int .i64 29, .int .u64 1, .slice (some ⟨b62, 0, none⟩) 3 3]) (q14 := b14) (E14 := #[.int .i64 3, .int .i64 5, .slice (some ⟨b56, 0, none⟩) 3 3]) (W := y.drew) ⟨rfl, rfl, rfl, HAB.out.1, HAB.out.2.2, rfl, fun z hz => ldEx ((hz.block b15 (Array.getElem?_eq_some_iff.1 H15d.out).1 id).trans H15d.out), (show ExV y.drew _ 29 1 (callX B) from ⟨_, _, _, rfl, HA.out.at1.kept (kept_drew9 y) fun _ _ => id, by decide⟩), rfl, fun z hz => ldFn ((hz.block b14 (Array.getElem?_eq_some_iff.1 H14d.out).1 id).trans H14d.out), (show FnV y.drew _ (fK K) from ⟨_, _, _, rfl, by rw [fK_body HK.out.2.2.2.1]; exact HA.out.st1.kept (kept_drew9 y) fun _ _ => id⟩)⟩ rfl ?_
  intro V g7 y hk7 hp7
  have H14 := Lib.hid ((hk7.block b14 (Array.getElem?_eq_some_iff.1 H14d.out).1 id).trans H14d.out)
  have HA := Lib.hid ((HA.out.next (kept_drew9 _)).next hk7)
  have HP := Lib.hid hp7
  clear hk7 hp7 H14d H15d H15
  simp only [listOf, Nat.reduceAdd, Nat.reduceEqDiff, Nat.reduceLeDiff, Nat.reduceLT, and_true, true_and, and_false, false_and, if_true, if_false, ite_true, ite_false, Array.getD_eq_getD_getElem?, List.getElem?_toArray, List.getElem?_cons_succ, List.getElem?_cons_zero, Option.getD_some]
  go_upto_region 9 with (first
  | (go_at_call 10; (with_reducible refine (eval7l K A B C HK.out.1 HK.out.2.1 HAB.out.1 HAB.out.2.1 HAB.out.2.2 _ V (ktab_kept HT.out HA.out.kp) HP.out).mono ?_); rintro e y ⟨g1, c1, u1, he, hc, hk⟩; obtain rfl : e = _ := he; have H14 := Lib.hid ((hk.block b14 (Array.getElem?_eq_some_iff.1 H14.out).1 id).trans H14.out); have HA := Lib.hid ((HA.out.next hk).addC hc); clear hk hc HP)
  | ((with_reducible refine wpList_store_row (P := Tryz.prog) (w := y.alloc (.cells zR 41)) ?_ 41 (.tmp 17) (.tmp 87) ?_ y.heap.size #[.int .u64 0, .slice (some ⟨g1, 0, none⟩) 2048 c1, .int .i64 u1] ?_ ?_ 41 zR (heap_alloc_last y _) infRes rfl (by simp [Value.oneCell']) ?_); (· exact rfl); (· exact rfl); (· exact rfl); (· exact rfl); rw [World.setRow_alloc_new]; simp only [Act.put]; have H14 := Lib.hid (((kept_alloc9 y (.cells #[.int .u64 0, .slice (some ⟨g1, 0, none⟩) 2048 c1, .int .i64 u1] 41)).block b14 (Array.getElem?_eq_some_iff.1 H14.out).1 id).trans H14.out); have HA := Lib.hid (HA.out.addR (.int .u64 0) (.slice (some ⟨g1, 0, none⟩) 2048 c1) (.int .i64 u1) 41); generalize y.heap.size = b17 at *; generalize y.alloc (.cells #[.int .u64 0, .slice (some ⟨g1, 0, none⟩) 2048 c1, .int .i64 u1] 41) = y at *))
  have H14d := Lib.hid (((kept_drew9 y).block b14 (Array.getElem?_eq_some_iff.1 H14.out).1 id).trans H14.out)
  refine region9 (k := K) (a9 := A) (b := B) (c := C) (q14 := b14) (E14 := #[.int .i64 3, .int .i64 5, .slice (some ⟨b56, 0, none⟩) 3 3]) (W := y.drew) ⟨rfl, ktab_kept HT.out (HA.out.next (kept_drew9 y)).kp, HK.out.1, HK.out.2.1, rfl, rfl, rfl, HAB.out.1, HAB.out.2.1, HAB.out.2.2, rfl, fun z hz => ldFn ((hz.block b14 (Array.getElem?_eq_some_iff.1 H14d.out).1 id).trans H14d.out), (show FnV y.drew _ (fK K) from ⟨_, _, _, rfl, by rw [fK_body HK.out.2.2.2.1]; exact HA.out.st1.kept (kept_drew9 y) fun _ _ => id⟩)⟩ rfl ?_
  intro b19 g2 c2 g9 y hk9 hq9
  rw [HK.out.2.2.2.2] at hq9
  have HA := Lib.hid (((HA.out.next (kept_drew9 _)).next hk9).addC (b := b19) (o := 0) (v := .int .u64 v) (by simp [World.cell?, hq9]))
  clear hk9 hq9 H14d H14
  simp only [listOf, Nat.reduceAdd, Nat.reduceEqDiff, Nat.reduceLeDiff, Nat.reduceLT, and_true, true_and, and_false, false_and, if_true, if_false, ite_true, ite_false, Array.getD_eq_getD_getElem?, List.getElem?_toArray, List.getElem?_cons_succ, List.getElem?_cons_zero, Option.getD_some]
  go_wp2_with (go_at_call 11; (with_reducible refine (fixed12_walk _ (ktab_kept HT.out HA.out.kp)).mono ?_); rintro e y ⟨he, hk⟩; obtain rfl : e = _ := he; have HA := Lib.hid (HA.out.next hk); have k170 : y.cell? ⟨b17, 0, none⟩ = some (.int .u64 0) := HA.out.c (b17, 0, .int .u64 0) (by simp); have k171 : y.cell? ⟨b17, 1, none⟩ = some (.slice (some ⟨g1, 0, none⟩) 2048 c1) := HA.out.c (b17, 1, .slice (some ⟨g1, 0, none⟩) 2048 c1) (by simp); have k15 : y.cell? ⟨g1, 5, none⟩ = some (.int .u64 A) := HA.out.c (g1, 5, .int .u64 A) (by simp); have k19 : y.cell? ⟨b19, 0, none⟩ = some (.int .u64 v) := HA.out.c (b19, 0, .int .u64 v) (by simp); clear hk)
  exact bodyPost_ret (v := .bool true) (by simp [results, Tryz.results3, go_sem]) rfl ⟨rfl, HA.out.kp.below (Nat.le_refl _) fun _ _ h => h.elim⟩
end Ir
end Go.Proofs.YtcgpdijpppcbiaaGreatDoor
