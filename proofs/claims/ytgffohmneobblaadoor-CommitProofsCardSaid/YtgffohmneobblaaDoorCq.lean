/-
  Layer 11: CommitOrder's walk. Written by genCq.py. Own work.
-/
import Derived.Test.YtgffohmneobblaaDoorCo
namespace Go.Proofs.YtgffohmneobblaaDoor
open Go.RowKit Go.ChangeShapes
set_option linter.unusedVariables false
set_option linter.unusedSimpArgs false
namespace Co
open Kc Mk Vm
/-- The cells that a slice of structs of integers holds. -/
theorem recs_cl {w : World} {a0 : Option Addr} {n c : Nat} (h : IsRecs [.u64, .u64] w a0 n c) : ∃ f : Nat → Nat × Nat, n ≤ maxLen ∧ IsCl w a0 n f ∧ ∀ j, (f j).1 < 18446744073709551616 ∧ (f j).2 < 18446744073709551616 := by
  rcases h with ⟨rfl, rfl, rfl⟩ | ⟨h1, h2, h3⟩
  · exact ⟨fun _ => (0, 0), by unfold maxLen; omega, .inl rfl, fun _ => ⟨by show (0 : Nat) < _; decide, by show (0 : Nat) < _; decide⟩⟩
  rcases Nat.eq_zero_or_pos n with h0 | h0
  · exact ⟨fun _ => (0, 0), by omega, .inl h0, fun _ => ⟨by show (0 : Nat) < _; decide, by show (0 : Nat) < _; decide⟩⟩
  obtain ⟨b, o, rfl, _⟩ := h3 0 h0
  have hx : ∀ i, ∃ x : Nat × Nat, (i < n → w.cell? ⟨b, o + i * 2, none⟩ = some (.int .u64 x.1) ∧ w.cell? ⟨b, o + i * 2 + 1, none⟩ = some (.int .u64 x.2)) ∧ x.1 < 18446744073709551616 ∧ x.2 < 18446744073709551616 := fun i => by
    by_cases hi : i < n
    · obtain ⟨c1, o1, e, hc⟩ := h3 i hi
      obtain ⟨rfl, rfl⟩ : c1 = b ∧ o1 = o := by simpa [eq_comm] using e
      obtain ⟨z0, e0, w0⟩ := hc 0 .u64 rfl
      obtain ⟨z1, e1, w1⟩ := hc 1 .u64 rfl
      have p0 : 0 ≤ z0 := (of_decide_eq_true (Bool.and_eq_true_iff.1 w0).1)
      have p1 : z0 ≤ 18446744073709551615 := (of_decide_eq_true (Bool.and_eq_true_iff.1 w0).2)
      have p2 : 0 ≤ z1 := (of_decide_eq_true (Bool.and_eq_true_iff.1 w1).1)
      have p3 : z1 ≤ 18446744073709551615 := (of_decide_eq_true (Bool.and_eq_true_iff.1 w1).2)
      obtain ⟨r, rfl⟩ : ∃ r : Nat, z0 = r := ⟨z0.toNat, by omega⟩
      obtain ⟨s, rfl⟩ : ∃ r : Nat, z1 = r := ⟨z1.toNat, by omega⟩
      exact ⟨(r, s), fun _ => ⟨e0, e1⟩, by show r < _; omega, by show s < _; omega⟩
    · exact ⟨(0, 0), fun h => absurd h hi, by decide, by decide⟩
  obtain ⟨f, hf⟩ := Classical.axiomOfChoice hx
  exact ⟨f, by omega, .inr ⟨b, o, rfl, fun j hj => (hf j).1 hj⟩, fun j => (hf j).2⟩
theorem layC_lt (f : Nat → Nat × Nat) (hf : ∀ j, (f j).1 < 18446744073709551616 ∧ (f j).2 < 18446744073709551616) : ∀ n i, (layC f n (loaded 0 fun _ => 0)).mem i < 18446744073709551616
  | 0, i => by show (if i < 0 then 0 else 0) < _; split <;> decide
  | n + 1, i => mem_setM (layC_lt f hf n) _ (hf n).2 i
/-- What the law keeps. -/
structure Ow (W : World) (b q4 q5 q7 X1 V1 X2 V2 : Nat) (M : Mac) (y : World) : Prop where
  mac : IsMac y b M
  b4 : Box2 y q4 61 (.int .u64 X1) (.int .u64 V1)
  b5 : Box2 y q5 61 (.int .u64 X2) (.int .u64 V2)
  c7 : y.cell? ⟨q7, 0, none⟩ = some (.pointer (some ⟨b, 0, none⟩))
  below : Below W.heap.size W y
  ge : W.heap.size ≤ b
  ne : b ≠ q4 ∧ b ≠ q5 ∧ b ≠ q7
theorem Ow.next {W y y' : World} {b q4 q5 q7 X1 V1 X2 V2 : Nat} {M : Mac} (h : Ow W b q4 q5 q7 X1 V1 X2 V2 M y) (hb : Below y.heap.size y y') : Ow W b q4 q5 q7 X1 V1 X2 V2 M y' := ⟨h.mac.below hb, h.b4.below hb, h.b5.below hb, keep1 hb h.c7, bl h.below hb, h.ge, h.ne⟩
theorem Ow.set {W y : World} {b q4 q5 q7 X1 V1 X2 V2 : Nat} {M : Mac} (h : Ow W b q4 q5 q7 X1 V1 X2 V2 M y) {p : Nat} (hp : p < 8192) (v : Nat) : Ow W b q4 q5 q7 X1 V1 X2 V2 (setM M p v) (y.setCell ⟨b, p, none⟩ (.int .u64 (v : Int))) :=
  ⟨h.mac.setMem hp v, IsTab.keep h.b4 (Ne.symm h.ne.1), IsTab.keep h.b5 (Ne.symm h.ne.2.1), by rw [cell_setN (Ne.symm h.ne.2.2)]; exact h.c7, h.below.setCell h.ge _, h.ge, h.ne⟩
theorem row_apart {w : World} {q b : Nat} {a : Option Addr} {c : Nat} {xs : List Value} (h : w.ownsRow q 42 32 (.slice a 13 c) 13 xs) (hb : b < q) : ∀ x o, a = some ⟨x, o, none⟩ → x ≠ b := fun x o e => by
  rcases ownsRow_forms h with ⟨h, _⟩ | ⟨g, cap, h, hg, _⟩
  · have := (Value.slice.inj h).1
    rw [e] at this; cases this
  · have := (Value.slice.inj h).1
    rw [e] at this
    cases this; omega
set_option maxHeartbeats 16000000 in
set_option maxRecDepth 100000 in
theorem order_in (w : World) (a0 : Option Addr) (len0 cap0 X1 V1 X2 V2 : Nat) (f : Nat → Nat × Nat) (hl : len0 ≤ maxLen) (hf : IsCl w a0 len0 f) (hfb : ∀ j, (f j).1 < 18446744073709551616 ∧ (f j).2 < 18446744073709551616) (hv1 : V1 < 18446744073709551616) (hv2 : V2 < 18446744073709551616) (ht : Laid.KTab w) :
    Calls Tryd.prog 4 #[.slice a0 len0 cap0, .agg #[.int .u64 X1, .int .u64 V1], .agg #[.int .u64 X2, .int .u64 V2]] w fun e w' => e = .returned (.bool true) ∧ Below w.heap.size w w' := by
  obtain ⟨A1, e1⟩ : ∃ A, A = X1 % 8192 := ⟨_, rfl⟩
  obtain ⟨A2, e2⟩ : ∃ A, A = X2 % 8192 := ⟨_, rfl⟩
  have HEA := Lib.hid (And.intro e1 e2)
  have HT := Lib.hid ht
  have hab : Below w.heap.size w ((w.alloc (.cells #[.int .u64 X1, .int .u64 V1] 61)).alloc (.cells #[.int .u64 X2, .int .u64 V2] 61)) := (ba _ _).alloc (by simp) _
  have hl1 := laid_walk ((w.alloc (.cells #[.int .u64 X1, .int .u64 V1] 61)).alloc (.cells #[.int .u64 X2, .int .u64 V2] 61)) a0 none len0 cap0 0 0 0 0 false f (fun _ => 0) (hf.below hab) (.inl rfl) hl (by decide) (min len0 100) 0 rfl (by decide)
  rw [show ((0 : Nat) : Int) = 0 from rfl] at hl1
  have hok : ∀ i, (endM (layR (fun _ => 0) 0 (layC f (min len0 100) (loaded 0 fun _ => 0))) 0 0 false).mem i < 18446744073709551616 := fun i => layC_lt f hfb _ i
  generalize endM (layR (fun _ => 0) 0 (layC f (min len0 100) (loaded 0 fun _ => 0))) 0 0 false = M at *
  have HX : Hid ((X1 : Int).tmod 8192 = (A1 : Int) ∧ (X2 : Int).tmod 8192 = (A2 : Int) ∧ A1 < 8192 ∧ A2 < 8192 ∧ (∀ i, M.mem i < 18446744073709551616) ∧ V1 < 18446744073709551616 ∧ V2 < 18446744073709551616) := Lib.hid ⟨by rw [Int.tmod_eq_emod_of_nonneg (by omega)]; omega, by rw [Int.tmod_eq_emod_of_nonneg (by omega)]; omega, by omega, by omega, hok, hv1, hv2⟩
  have HL := Lib.hid hl1
  have HW : Hid (Box2 ((w.alloc (.cells #[.int .u64 X1, .int .u64 V1] 61)).alloc (.cells #[.int .u64 X2, .int .u64 V2] 61)) w.heap.size 61 (.int .u64 X1) (.int .u64 V1) ∧ Box2 ((w.alloc (.cells #[.int .u64 X1, .int .u64 V1] 61)).alloc (.cells #[.int .u64 X2, .int .u64 V2] 61)) (w.heap.size + 1) 61 (.int .u64 X2) (.int .u64 V2) ∧ Below w.heap.size w ((w.alloc (.cells #[.int .u64 X1, .int .u64 V1] 61)).alloc (.cells #[.int .u64 X2, .int .u64 V2] 61))) := Lib.hid (by
    have e1 : (w.alloc (.cells #[.int .u64 X1, .int .u64 V1] 61)).heap.size = w.heap.size + 1 := by simp
    refine ⟨IsTab.alloc (Box2.new w 61 _ _) _, ?_, hab⟩
    have h := Box2.new (w.alloc (.cells #[.int .u64 X1, .int .u64 V1] 61)) 61 (.int .u64 X2) (.int .u64 V2)
    rw [e1] at h; exact h)
  clear hl1 hok hf hfb hl hv1 hv2 ht e1 e2 hab
  have z2 := zeroHash
  have HBH := Lib.hid (fun u : World => buildH0 u)
  generalize hz : (tab 32 fun _ => bv 0#8) = zh at *
  have HZ := Lib.hid hz
  clear hz
  have HZI : Hid ((Tryd.prog.info? 42).map (·.size) = some zh.size ∧ zh.all (·.oneCell') = true ∧ zh.size = 32) := Lib.hid ⟨by rw [← HZ.out]; exact infH _, by rw [← HZ.out]; exact one_bv _ _, by rw [← HZ.out, tab_size]⟩
  go_enter Tryd.func4, Tryd.ntmps4
  go_upto_region 1 with (fail)
  generalize (w.alloc (.cells #[.int .u64 X1, .int .u64 V1] 61)).alloc (.cells #[.int .u64 X2, .int .u64 V2] 61) = y0 at *
  generalize w.heap.size + 1 = q5 at *
  generalize hq : w.heap.size = q4 at *
  have HQ := Lib.hid hq
  clear hq
  go_upto_region 2 with (go_at_call 22; (with_reducible refine HL.out.mono ?_); rintro e y1 ⟨b, r, qm, qr, he, hla⟩; obtain rfl : e = _ := he; have H1 : Hid (IsMac y1 b M ∧ Below y0.heap.size y0 y1 ∧ y0.heap.size ≤ b) := Lib.hid ⟨hla.mac, hla.below, hla.ge.1⟩; clear hla HL)
  have H2 : Hid (Ow w b q4 q5 y1.heap.size X1 V1 X2 V2 M (y1.alloc (.cells #[.pointer (some ⟨b, 0, none⟩)] 24))) := Lib.hid (by
    have z1 := HW.out.1.lt
    have z2 := HW.out.2.1.lt
    have z3 := H1.out.2.2
    have z4 := H1.out.1.lt
    have z5 := HW.out.2.2.size
    refine ⟨H1.out.1.below (ba _ _), (HW.out.1.below H1.out.2.1).below (ba _ _), (HW.out.2.1.below H1.out.2.1).below (ba _ _), ?_, ?_, by have := HQ.out; omega, by omega, by omega, by omega⟩
    · have h := IsTab.new y1 24 1 (fun _ => .pointer (some ⟨b, 0, none⟩))
      exact IsTab.cell h 0 (by decide)
    · rw [HQ.out]
      exact (HW.out.2.2.trans (H1.out.2.1.mono (by have := HQ.out; omega))).trans ((ba _ _).mono (by have := H1.out.2.1.size; have := HQ.out; omega)))
  clear H1 HW
  generalize y1.alloc (.cells #[.pointer (some ⟨b, 0, none⟩)] 24) = y2 at *
  generalize y1.heap.size = q7 at *
  have k7 := H2.out.c7
  have HFX := Lib.hid (fixed11_walk y2 (ktab_below HT.out H2.out.below))
  go_upto_region 4 with (go_at_call 12; (with_reducible refine HFX.out.mono ?_); rintro e y5 ⟨he, hb⟩; obtain rfl : e = _ := he; have H5 := Lib.hid (H2.out.next hb); clear hb HFX)
  clear k7 H2
  refine wp_region_og (fun z : World => Box2 z q4 61 (.int .u64 X1) (.int .u64 V1) ∧ Box2 z q5 61 (.int .u64 X2) (.int .u64 V2)) (.take 0 (.take 1 (.take 2 (.take 3 (.take 4 (.take 5 (.one 6 (.one 7 (.take 8 .done))))))))) (by kernel_rfl) (by kernel_rfl) ⟨H5.out.b4, H5.out.b5⟩ ?_
  have H5 := Lib.hid (H5.out.next (Below.refl _ _).drew)
  generalize y5.drew = z1 at *
  refine og_tk (some 36) (.pointer (some ⟨q4, 0, none⟩)) rfl rfl (by go_simp) (fun _ _ => by simp [execOp, go_sem]) ?_
  simp only [Act.put, pS]
  refine og_ld (some 37) 33 (.tmp 36) (.pointer (some ⟨q4, 0, none⟩)) (.int .u64 X1) rfl rfl (by go_simp) rfl rfl (fun y hy => by have h := hy.1.k0; simp [Instr.loadAt, go_sem, h, Tryd.underlying33]) ?_
  simp only [Act.put, pS]
  refine og_tk (some 38) (.int .u64 A1) rfl rfl (by go_simp) (fun y hy => by have h := HX.out.1; simp [execOp, go_sem, h, Result.andThen]) ?_
  simp only [Act.put, pS]
  refine og_tk (some 39) (.pointer (some ⟨q5, 0, none⟩)) rfl rfl (by go_simp) (fun _ _ => by simp [execOp, go_sem]) ?_
  simp only [Act.put, pS]
  refine og_ld (some 40) 33 (.tmp 39) (.pointer (some ⟨q5, 0, none⟩)) (.int .u64 X2) rfl rfl (by go_simp) rfl rfl (fun y hy => by have h := hy.2.k0; simp [Instr.loadAt, go_sem, h, Tryd.underlying33]) ?_
  simp only [Act.put, pS]
  refine og_tk (some 41) (.int .u64 A2) rfl rfl (by go_simp) (fun y hy => by have h := HX.out.2.1; simp [execOp, go_sem, h, Result.andThen]) ?_
  simp only [Act.put, pS]
  have HA9 : Hid (Ow w b q4 q5 q7 X1 V1 X2 V2 M (z1.alloc (.cells #[.int .u64 0] 33)) ∧ IsTab (z1.alloc (.cells #[.int .u64 0] 33)) z1.heap.size 33 1 (fun _ => .int .u64 0)) := Lib.hid ⟨H5.out.next (ba _ _), IsTab.new z1 33 1 (fun _ => .int .u64 0)⟩
  refine og_f rfl (by go_simp) fun K hK => ?_
  go_simp
  refine hK _ _ ⟨HA9.out.1.b4, HA9.out.1.b5⟩ ?_
  clear hK K
  try simp only [List.getElem_toArray, List.getElem_cons_succ, List.getElem_cons_zero, Act.put, pS]
  have HNE9 : Hid (z1.heap.size ≠ q4 ∧ z1.heap.size ≠ q5 ∧ z1.heap.size ≠ b ∧ z1.heap.size ≠ q7 ∧ w.heap.size ≤ z1.heap.size) := Lib.hid ⟨by have := H5.out.b4.lt; omega, by have := H5.out.b5.lt; omega, by have := H5.out.mac.lt; omega, by have := inHeap H5.out.c7; omega, H5.out.below.size⟩
  clear H5
  generalize z1.alloc (.cells #[.int .u64 0] 33) = z2 at *
  generalize z1.heap.size = q9 at *
  have kd := HA9.out.2.cell 0 (by decide)
  have fd := HA9.out.2.fz 0
  have H6 : Hid (Ow w b q4 q5 q7 X1 V1 X2 V2 M (z2.setCell ⟨q9, 0, none⟩ (.int .u64 (A1 : Nat))) ∧ (z2.setCell ⟨q9, 0, none⟩ (.int .u64 (A1 : Nat))).cell? ⟨q9, 0, none⟩ = some (.int .u64 (A1 : Nat))) := Lib.hid (by
    have g := HA9.out.1
    have n := HNE9.out
    refine ⟨⟨IsTab.keep g.mac (Ne.symm n.2.2.1), IsTab.keep g.b4 (Ne.symm n.1), IsTab.keep g.b5 (Ne.symm n.2.1), by rw [cell_setN (Ne.symm n.2.2.2.1)]; exact g.c7, g.below.setCell n.2.2.2.2 _, g.ge, g.ne⟩, ?_⟩
    have h := (IsTab.set HA9.out.2 0 (.int .u64 (A1 : Nat))).cell 0 (by decide)
    exact h)
  refine og_f rfl (by go_simp) fun K hK => ?_
  go_simp
  refine hK _ _ ⟨H6.out.1.b4, H6.out.1.b5⟩ ?_
  clear hK K kd fd HA9
  try simp only [List.getElem_toArray, List.getElem_cons_succ, List.getElem_cons_zero, Act.put, pS]
  generalize z2.setCell ⟨q9, 0, none⟩ (.int .u64 (A1 : Nat)) = y6 at *
  refine og_tk (some 10) (.int .u64 A2) rfl rfl (by go_simp) (fun _ _ => by simp [execOp, go_sem]) ?_
  simp only [Act.put, pS]
  refine og_done (NoPanic.normal ?_)
  go_upto_region 6 with (fail)
  have HO := Lib.hid (order1_walk y6 b q7 q9 A1 X1 V1 X2 V2 M H6.out.1.mac H6.out.1.c7 H6.out.2 HX.out.2.2.1 HX.out.2.2.2.2.1 HX.out.2.2.2.2.2.1 HX.out.2.2.2.2.2.2 (ktab_below HT.out H6.out.1.below) A1 A2 HEA.out.1 HEA.out.2)
  have HL4 := Lib.hid (loadCl H6.out.1.b4.k0 H6.out.1.b4.k1)
  have HL5 := Lib.hid (loadCl H6.out.1.b5.k0 H6.out.1.b5.k1)
  go_upto_region 7 with (first
    | ((with_reducible refine wpList_loadE (P := Tryd.prog) (w := y6) (ty := 61) (x := .tmp 4) (p := .pointer (some ⟨q4, 0, none⟩)) (v := .agg #[.int .u64 X1, .int .u64 V1]) ?_ ?_ ?_ HL4.out ?_); (· exact rfl); (· exact rfl); (· exact rfl))
    | ((with_reducible refine wpList_loadE (P := Tryd.prog) (w := y6) (ty := 61) (x := .tmp 5) (p := .pointer (some ⟨q5, 0, none⟩)) (v := .agg #[.int .u64 X2, .int .u64 V2]) ?_ ?_ ?_ HL5.out ?_); (· exact rfl); (· exact rfl); (· exact rfl))
    | (go_at_call 23; (refine HO.out.mono ?_); rintro e y7 ⟨he, hb⟩; obtain rfl : e = _ := he; have H7 : Hid (Ow w b q4 q5 q7 X1 V1 X2 V2 M y7 ∧ y7.cell? ⟨q9, 0, none⟩ = some (.int .u64 (A1 : Nat))) := Lib.hid ⟨H6.out.1.next hb, keep1 hb H6.out.2⟩; clear hb HO))
  clear HL4 HL5 H6
  have HO := Lib.hid (order1_walk y7 b q7 q9 A1 X2 V2 X1 V1 M H7.out.1.mac H7.out.1.c7 H7.out.2 HX.out.2.2.1 HX.out.2.2.2.2.1 HX.out.2.2.2.2.2.2 HX.out.2.2.2.2.2.1 (ktab_below HT.out H7.out.1.below) A2 A1 HEA.out.2 HEA.out.1)
  have HL4 := Lib.hid (loadCl H7.out.1.b4.k0 H7.out.1.b4.k1)
  have HL5 := Lib.hid (loadCl H7.out.1.b5.k0 H7.out.1.b5.k1)
  go_upto_region 8 with (first
    | ((with_reducible refine wpList_loadE (P := Tryd.prog) (w := y7) (ty := 61) (x := .tmp 4) (p := .pointer (some ⟨q4, 0, none⟩)) (v := .agg #[.int .u64 X1, .int .u64 V1]) ?_ ?_ ?_ HL4.out ?_); (· exact rfl); (· exact rfl); (· exact rfl))
    | ((with_reducible refine wpList_loadE (P := Tryd.prog) (w := y7) (ty := 61) (x := .tmp 5) (p := .pointer (some ⟨q5, 0, none⟩)) (v := .agg #[.int .u64 X2, .int .u64 V2]) ?_ ?_ ?_ HL5.out ?_); (· exact rfl); (· exact rfl); (· exact rfl))
    | (go_at_call 23; (refine HO.out.mono ?_); rintro e y8 ⟨he, hb⟩; obtain rfl : e = _ := he; have H8 : Hid (Ow w b q4 q5 q7 X1 V1 X2 V2 M y8 ∧ y8.cell? ⟨q9, 0, none⟩ = some (.int .u64 (A1 : Nat))) := Lib.hid ⟨H7.out.1.next hb, keep1 hb H7.out.2⟩; clear hb HO))
  clear HL4 HL5 H7
  have HX8 := Lib.hid HX.out
  by_cases hA : A1 = A2
  · subst hA
    have ea : (setM (setM M A1 V1) A1 V2).mem A1 = V2 := by show (if A1 = A1 then V2 else _) = V2; rw [if_pos rfl]
    have eb : (setM (setM M A1 V2) A1 V1).mem A1 = V1 := by show (if A1 = A1 then V1 else _) = V1; rw [if_pos rfl]
    rw [ea, eb]
    have t1 : (((A1 : Nat) : Int) == ((A1 : Nat) : Int)) = true := by simp
    by_cases hv : V1 = V2
    · subst hv
      have k9 := H8.out.2
      have k41 := H8.out.1.b4.k1
      have k51 := H8.out.1.b5.k1
      clear ea eb
      go_upto_region 10 with (fail)
      clear k9 k41 k51
      have HPR := Lib.hid (Prove_ok y8 b A1 M H8.out.1.mac HX.out.2.2.2.2.1 HX.out.2.2.2.1 (ktab_below HT.out H8.out.1.below))
      have k7 := H8.out.1.c7
      go_upto_region 11 with (first
        | (go_at_call 20; (refine HPR.out.mono ?_); rintro e y9 ⟨a, c, he, hc, hcm, hna, hrow, hb⟩; obtain rfl : e = _ := he; obtain ⟨a9, c9, ev, hsa, _⟩ := hs_of hrow; obtain ⟨rfl, _, rfl⟩ := Value.slice.inj ev; have HAB : Hid (∀ x o, a = some ⟨x, o, none⟩ → x ≠ b) := Lib.hid (row_apart hrow H8.out.1.mac.lt); have H9 : Hid (Ow w b q4 q5 q7 X1 V1 X2 V1 M y9 ∧ y9.cell? ⟨q9, 0, none⟩ = some (.int .u64 (A1 : Nat)) ∧ IsHs y9 a 13 (sib (mg M) A1) ∧ 13 ≤ c) := Lib.hid ⟨H8.out.1.next hb, keep1 hb H8.out.2, hsa, hc⟩; clear hb hc hcm hna hrow hsa HPR)
        | ((with_reducible refine wpList_store_row (P := Tryd.prog) (w := y9.alloc (.cells #[.int .u64 0, .slice none 0 0] 54)) ?_ 54 (.tmp 16) (.tmp 85) ?_ y9.heap.size #[.int .u64 (M.mem A1), .slice a 13 c] ?_ ?_ 54 #[.int .u64 0, .slice none 0 0] (heap_alloc_last y9 _) infPt ?_ rfl ?_); (· exact rfl); (· exact rfl); (· exact rfl); (· exact rfl); (· exact rfl); rw [World.setRow_alloc_new]; simp only [Act.put]))
      clear k7
      have HNB : Hid (q9 ≠ b ∧ y9.heap.size ≠ b ∧ ∀ x o, a = some ⟨x, o, none⟩ → x ≠ b) := Lib.hid ⟨HNE9.out.2.2.1, by have := H9.out.1.mac.lt; omega, HAB.out⟩
      have H10 : Hid (Ow w b q4 q5 q7 X1 V1 X2 V1 M (y9.alloc (.cells #[.int .u64 (M.mem A1), .slice a 13 c] 54)) ∧ (y9.alloc (.cells #[.int .u64 (M.mem A1), .slice a 13 c] 54)).cell? ⟨q9, 0, none⟩ = some (.int .u64 (A1 : Nat)) ∧ IsHs (y9.alloc (.cells #[.int .u64 (M.mem A1), .slice a 13 c] 54)) a 13 (sib (mg M) A1) ∧ 13 ≤ c ∧ Box2 (y9.alloc (.cells #[.int .u64 (M.mem A1), .slice a 13 c] 54)) y9.heap.size 54 (.int .u64 (M.mem A1)) (.slice a 13 c)) := Lib.hid ⟨H9.out.1.next (ba _ _), keep1 (ba _ _) H9.out.2.1, H9.out.2.2.1.below (ba _ _), H9.out.2.2.2, Box2.new y9 54 _ _⟩
      clear H8 H9
      generalize y9.alloc (.cells #[.int .u64 (M.mem A1), .slice a 13 c] 54) = y10 at *
      generalize y9.heap.size = q16 at *
      have HRO := Lib.hid (Root_walk y10 b M H10.out.1.mac HX.out.2.2.2.2.1 (ktab_below HT.out H10.out.1.below))
      have k7 := H10.out.1.c7
      go_upto_region 12 with (first
        | (go_at_call 14; (with_reducible refine HRO.out.mono ?_); rintro e y11 ⟨he, hb⟩; obtain rfl : e = _ := he; have H11 : Hid (Ow w b q4 q5 q7 X1 V1 X2 V1 M y11 ∧ y11.cell? ⟨q9, 0, none⟩ = some (.int .u64 (A1 : Nat)) ∧ IsHs y11 a 13 (sib (mg M) A1) ∧ 13 ≤ c ∧ Box2 y11 q16 54 (.int .u64 (M.mem A1)) (.slice a 13 c)) := Lib.hid ⟨H10.out.1.next hb, keep1 hb H10.out.2.1, H10.out.2.2.1.below hb, H10.out.2.2.2.1, H10.out.2.2.2.2.below hb⟩; clear hb HRO)
        | ((with_reducible refine wpList_store_row (P := Tryd.prog) (w := y11.alloc (.cells zh 42)) ?_ 42 (.tmp 18) (.tmp 90) ?_ y11.heap.size (tab 32 fun i => bv (mroot M i)) ?_ ?_ 42 zh (heap_alloc_last y11 _) (infH _) ?_ (one_bv _ _) ?_); (· exact rfl); (· exact rfl); (· exact rfl); (· exact rfl); (· rw [HZI.out.2.2, tab_size]); rw [World.setRow_alloc_new]; simp only [Act.put]))
      clear k7 H10
      have HB12 : Hid (Below y11.heap.size y11 (y11.alloc (.cells (tab 32 fun i => bv (mroot M i)) 42))) := Lib.hid (ba _ _)
      have HT18 : Hid (IsTab (y11.alloc (.cells (tab 32 fun i => bv (mroot M i)) 42)) y11.heap.size 42 32 fun i => bv (mroot M i)) := Lib.hid (IsTab.new y11 _ 32 _)
      have HNQ : Hid (b ≠ y11.heap.size) := Lib.hid (by have := H11.out.1.mac.lt; omega)
      generalize y11.alloc (.cells (tab 32 fun i => bv (mroot M i)) 42) = y12 at *
      generalize hq18 : y11.heap.size = q18 at *
      have HQ18 := Lib.hid hq18
      clear hq18
      have HB13 : Hid (Below q18 y11 y12.drew) := Lib.hid HB12.out.drew
      refine wp_region_og (fun z : World => Below q18 y11 z) (.take 0 (.take 1 (.take 2 (.take 3 (.take 4 (.take 5 (.take 6 .done))))))) (by kernel_rfl) (by kernel_rfl) HB13.out ?_
      have HT18 := Lib.hid HT18.out.drew
      have HT18 : Hid (IsTab y12.drew q18 42 32 fun i => bv (mroot M i)) := Lib.hid HT18.out
      clear HB12
      generalize y12.drew = y13 at *
      refine og_ld (some 92) 24 (.tmp 7) (.pointer (some ⟨q7, 0, none⟩)) (.pointer (some ⟨b, 0, none⟩)) rfl rfl (by go_simp) rfl rfl (fun y hy => by have h := keep1 (HQ18.out ▸ hy) H11.out.1.c7; simp [Instr.loadAt, go_sem, h, Tryd.underlying24]) ?_
      simp only [Act.put, pS]
      refine og_ld (some 93) 33 (.tmp 9) (.pointer (some ⟨q9, 0, none⟩)) (.int .u64 (A1 : Nat)) rfl rfl (by go_simp) rfl rfl (fun y hy => by have h := keep1 (HQ18.out ▸ hy) H11.out.2.1; simp [Instr.loadAt, go_sem, h, Tryd.underlying33]) ?_
      simp only [Act.put, pS]
      refine og_tk (some 94) (.pointer (some ⟨b, 0, none⟩)) rfl rfl (by go_simp) (fun _ _ => by simp [execOp, go_sem]) ?_
      simp only [Act.put, pS]
      refine og_tk (some 95) (.pointer (some ⟨b, 0, none⟩)) rfl rfl (by go_simp) (fun _ _ => by simp [execOp, go_sem]) ?_
      simp only [Act.put, pS]
      refine og_tk (some 96) (.pointer (some ⟨b, A1, none⟩)) rfl rfl (by go_simp) (fun y hy => by have h := ixMemU b A1 HX.out.2.2.1 y; simp [execOp, go_sem, h, Result.andThen]) ?_
      simp only [Act.put, pS]
      refine og_ld (some 97) 33 (.tmp 96) (.pointer (some ⟨b, A1, none⟩)) (.int .u64 (M.mem A1)) rfl rfl (by go_simp) rfl rfl (fun y hy => by have h := ((H11.out.1.next (HQ18.out ▸ hy)).mac.mem HX.out.2.2.1); simp [Instr.loadAt, go_sem, h, Tryd.underlying33]) ?_
      simp only [Act.put, pS]
      refine og_tk (some 20) (.int .u64 (M.mem A1)) rfl rfl (by go_simp) (fun _ _ => by simp [execOp, go_sem]) ?_
      simp only [Act.put, pS]
      refine og_done (NoPanic.normal ?_)
      have HO13 : Hid (Ow w b q4 q5 q7 X1 V1 X2 V1 M y13.drew ∧ y13.drew.cell? ⟨q9, 0, none⟩ = some (.int .u64 (A1 : Nat)) ∧ IsHs y13.drew a 13 (sib (mg M) A1) ∧ 13 ≤ c ∧ Box2 y13.drew q16 54 (.int .u64 (M.mem A1)) (.slice a 13 c) ∧ IsTab y13.drew q18 42 32 fun i => bv (mroot M i)) := Lib.hid (by
        have hb : Below y11.heap.size y11 y13.drew := HQ18.out ▸ HB13.out.drew
        exact ⟨H11.out.1.next hb, keep1 hb H11.out.2.1, H11.out.2.2.1.below hb, H11.out.2.2.2.1, H11.out.2.2.2.2.below hb, HT18.out⟩)
      clear H11 HB13 HT18
      go_upto_region 13 with (fail)
      refine wp_region_og (fun z : World => z.cell? ⟨q7, 0, none⟩ = some (.pointer (some ⟨b, 0, none⟩)) ∧ z.cell? ⟨q9, 0, none⟩ = some (.int .u64 (A1 : Nat)) ∧ Box2 z q4 61 (.int .u64 X1) (.int .u64 V1)) (.take 0 (.take 1 (.take 2 (.take 3 (.take 4 (.take 5 (.take 6 (.one 7 .done)))))))) (by kernel_rfl) (by kernel_rfl) ⟨HO13.out.1.c7, HO13.out.2.1, HO13.out.1.b4⟩ ?_
      generalize y13.drew = z3 at *
      refine og_ld (some 98) 24 (.tmp 7) (.pointer (some ⟨q7, 0, none⟩)) (.pointer (some ⟨b, 0, none⟩)) rfl rfl (by go_simp) rfl rfl (fun y hy => by have h := hy.1; simp [Instr.loadAt, go_sem, h, Tryd.underlying24]) ?_
      simp only [Act.put, pS]
      refine og_ld (some 99) 33 (.tmp 9) (.pointer (some ⟨q9, 0, none⟩)) (.int .u64 (A1 : Nat)) rfl rfl (by go_simp) rfl rfl (fun y hy => by have h := hy.2.1; simp [Instr.loadAt, go_sem, h, Tryd.underlying33]) ?_
      simp only [Act.put, pS]
      refine og_tk (some 100) (.pointer (some ⟨q4, 1, none⟩)) rfl rfl (by go_simp) (fun _ _ => by simp [execOp, go_sem]) ?_
      simp only [Act.put, pS]
      refine og_ld (some 101) 33 (.tmp 100) (.pointer (some ⟨q4, 1, none⟩)) (.int .u64 V1) rfl rfl (by go_simp) rfl rfl (fun y hy => by have h := hy.2.2.k1; simp [Instr.loadAt, go_sem, h, Tryd.underlying33]) ?_
      simp only [Act.put, pS]
      refine og_tk (some 102) (.pointer (some ⟨b, 0, none⟩)) rfl rfl (by go_simp) (fun _ _ => by simp [execOp, go_sem]) ?_
      simp only [Act.put, pS]
      refine og_tk (some 103) (.pointer (some ⟨b, 0, none⟩)) rfl rfl (by go_simp) (fun _ _ => by simp [execOp, go_sem]) ?_
      simp only [Act.put, pS]
      refine og_tk (some 104) (.pointer (some ⟨b, A1, none⟩)) rfl rfl (by go_simp) (fun y hy => by have h := ixMemU b A1 HX.out.2.2.1 y; simp [execOp, go_sem, h, Result.andThen]) ?_
      simp only [Act.put, pS]
      have kd := HO13.out.1.mac.mem HX.out.2.2.1
      have fd := HO13.out.1.mac.fz A1
      have H14 : Hid (Ow w b q4 q5 q7 X1 V1 X2 V1 (setM M A1 V1) (z3.setCell ⟨b, A1, none⟩ (.int .u64 (V1 : Nat))) ∧ (z3.setCell ⟨b, A1, none⟩ (.int .u64 (V1 : Nat))).cell? ⟨q9, 0, none⟩ = some (.int .u64 (A1 : Nat)) ∧ IsHs (z3.setCell ⟨b, A1, none⟩ (.int .u64 (V1 : Nat))) a 13 (sib (mg M) A1) ∧ 13 ≤ c ∧ Box2 (z3.setCell ⟨b, A1, none⟩ (.int .u64 (V1 : Nat))) q16 54 (.int .u64 (M.mem A1)) (.slice a 13 c) ∧ IsTab (z3.setCell ⟨b, A1, none⟩ (.int .u64 (V1 : Nat))) q18 42 32 fun i => bv (mroot M i)) := Lib.hid (by
        have g := HO13.out
        have n := HNB.out
        refine ⟨g.1.set HX.out.2.2.1 V1, by rw [cell_setN n.1]; exact g.2.1, ?_, g.2.2.2.1, IsTab.keep g.2.2.2.2.1 n.2.1, IsTab.keep g.2.2.2.2.2 (Ne.symm HNQ.out)⟩
        rcases g.2.2.1 with h | ⟨x, o, e, h⟩
        · exact .inl h
        · refine .inr ⟨x, o, e, fun k j hk hj => ?_⟩
          rw [cell_setN (n.2.2 x o e)]; exact h k j hk hj)
      refine og_f rfl (by go_simp) fun K hK => ?_
      go_simp
      refine hK _ _ ⟨H14.out.1.c7, H14.out.2.1, H14.out.1.b4⟩ ?_
      clear hK K kd fd HO13
      try simp only [List.getElem_toArray, List.getElem_cons_succ, List.getElem_cons_zero, Act.put, pS]
      refine og_done (NoPanic.normal ?_)
      generalize z3.setCell ⟨b, A1, none⟩ (.int .u64 (V1 : Nat)) = y14 at *
      have HRO := Lib.hid (Root_walk y14 b (setM M A1 V1) H14.out.1.mac (mem_setM HX.out.2.2.2.2.1 A1 HX.out.2.2.2.2.2.1) (ktab_below HT.out H14.out.1.below))
      have k7 := H14.out.1.c7
      go_upto_region 15 with (first
        | (go_at_call 14; (with_reducible refine HRO.out.mono ?_); rintro e y15 ⟨he, hb⟩; obtain rfl : e = _ := he; have H15 : Hid (Ow w b q4 q5 q7 X1 V1 X2 V1 (setM M A1 V1) y15 ∧ IsHs y15 a 13 (sib (mg M) A1) ∧ 13 ≤ c ∧ Box2 y15 q16 54 (.int .u64 (M.mem A1)) (.slice a 13 c) ∧ IsTab y15 q18 42 32 fun i => bv (mroot M i)) := Lib.hid ⟨H14.out.1.next hb, H14.out.2.2.1.below hb, H14.out.2.2.2.1, H14.out.2.2.2.2.1.below hb, H14.out.2.2.2.2.2.below hb⟩; clear hb HRO)
        | ((with_reducible refine wpList_store_row (P := Tryd.prog) (w := y15.alloc (.cells zh 42)) ?_ 42 (.tmp 21) (.tmp 108) ?_ y15.heap.size (tab 32 fun i => bv (mroot (setM M A1 V1) i)) ?_ ?_ 42 zh (heap_alloc_last y15 _) (infH _) ?_ (one_bv _ _) ?_); (· exact rfl); (· exact rfl); (· exact rfl); (· exact rfl); (· rw [HZI.out.2.2, tab_size]); rw [World.setRow_alloc_new]; simp only [Act.put]))
      clear k7 H14
      have HB16 : Hid (Below y15.heap.size y15 (y15.alloc (.cells (tab 32 fun i => bv (mroot (setM M A1 V1) i)) 42))) := Lib.hid (ba _ _)
      have HT21 : Hid (IsTab (y15.alloc (.cells (tab 32 fun i => bv (mroot (setM M A1 V1) i)) 42)) y15.heap.size 42 32 fun i => bv (mroot (setM M A1 V1) i)) := Lib.hid (IsTab.new y15 _ 32 _)
      generalize y15.alloc (.cells (tab 32 fun i => bv (mroot (setM M A1 V1) i)) 42) = y16 at *
      have H16 : Hid (Ow w b q4 q5 q7 X1 V1 X2 V1 (setM M A1 V1) y16 ∧ IsHs y16 a 13 (sib (mg M) A1) ∧ 13 ≤ c ∧ Box2 y16 q16 54 (.int .u64 (M.mem A1)) (.slice a 13 c) ∧ IsTab y16 q18 42 32 fun i => bv (mroot M i)) := Lib.hid ⟨H15.out.1.next HB16.out, H15.out.2.1.below HB16.out, H15.out.2.2.1, H15.out.2.2.2.1.below HB16.out, H15.out.2.2.2.2.below HB16.out⟩
      clear H15 HB16
      generalize y15.heap.size = q21 at *
      have HL21 := Lib.hid (load32h HT21.out)
      have HL16 := Lib.hid (loadPt H16.out.2.2.2.1)
      have hh := Holds_ok y16 (mroot (setM M A1 V1)) A1 (M.mem A1) c a (sib (mg M) A1) H16.out.2.1 H16.out.2.2.1 HX.out.2.2.2.1 (HX.out.2.2.2.2.1 _) (ktab_below HT.out H16.out.1.below)
      rw [own_fold M HX.out.2.2.2.1, same_comm] at hh
      have HH := Lib.hid hh
      clear hh
      go_upto_region 16 with (first
        | ((with_reducible refine wpList_loadE (P := Tryd.prog) (w := y16) (ty := 42) (x := .tmp 21) (p := .pointer (some ⟨q21, 0, none⟩)) (v := dv (mroot (setM M A1 V1))) ?_ ?_ ?_ HL21.out ?_); (· exact rfl); (· exact rfl); (· exact rfl))
        | ((with_reducible refine wpList_loadE (P := Tryd.prog) (w := y16) (ty := 54) (x := .tmp 16) (p := .pointer (some ⟨q16, 0, none⟩)) (v := .agg #[.int .u64 (M.mem A1), .slice a 13 c]) ?_ ?_ ?_ HL16.out ?_); (· exact rfl); (· exact rfl); (· exact rfl))
        | (go_at_call 24; (refine HH.out.mono ?_); rintro e y17 ⟨he, hb⟩; obtain rfl : e = _ := he; have H17 : Hid ((IsTab y17 q21 42 32 fun i => bv (mroot (setM M A1 V1) i)) ∧ (IsTab y17 q18 42 32 fun i => bv (mroot M i)) ∧ Below w.heap.size w y17) := Lib.hid ⟨HT21.out.below hb, H16.out.2.2.2.2.below hb, (H16.out.1.next hb).below⟩; clear hb HH))
      clear HL21 HL16 H16 HT21
      have HL21 := Lib.hid (load32h H17.out.1)
      have HL18 := Lib.hid (load32h H17.out.2.1)
      go_wp2_with (first
        | ((with_reducible refine wpList_loadG (P := Tryd.prog) (w := y17) (ty := 42) (x := .tmp 21) (p := .pointer (some ⟨q21, 0, none⟩)) (v := dv (mroot (setM M A1 V1))) ?_ ?_ ?_ HL21.out ?_); rotate_left; (· exact rfl); (· exact rfl); rotate_left; (· go_simp))
        | ((with_reducible refine wpList_loadG (P := Tryd.prog) (w := y17) (ty := 42) (x := .tmp 18) (p := .pointer (some ⟨q18, 0, none⟩)) (v := dv (mroot M)) ?_ ?_ ?_ HL18.out ?_); rotate_left; (· exact rfl); (· exact rfl); rotate_left; (· go_simp))
        | (refine wpList_eqG (by go_simp) (.tmp 133) (.tmp 134) 42 (mroot (setM M A1 V1)) (mroot M) rfl rfl rfl ?_))
      exact bodyPost_ret (v := .bool true) (by simp [results, Tryd.results4, go_sem]) rfl ⟨rfl, H17.out.2.2⟩
    · have t2 : (((V2 : Nat) : Int) == ((V1 : Nat) : Int)) = false := by simp; omega
      have t3 : (((V1 : Nat) : Int) == ((V2 : Nat) : Int)) = false := by simp; omega
      have k9 := H8.out.2
      have k41 := H8.out.1.b4.k1
      have k51 := H8.out.1.b5.k1
      clear ea eb hv
      go_upto_region 10 with (fail)
      clear k9 k41 k51
      have HPR := Lib.hid (Prove_ok y8 b A1 M H8.out.1.mac HX.out.2.2.2.2.1 HX.out.2.2.2.1 (ktab_below HT.out H8.out.1.below))
      have k7 := H8.out.1.c7
      go_upto_region 11 with (first
        | (go_at_call 20; (refine HPR.out.mono ?_); rintro e y9 ⟨a, c, he, hc, hcm, hna, hrow, hb⟩; obtain rfl : e = _ := he; obtain ⟨a9, c9, ev, hsa, _⟩ := hs_of hrow; obtain ⟨rfl, _, rfl⟩ := Value.slice.inj ev; have HAB : Hid (∀ x o, a = some ⟨x, o, none⟩ → x ≠ b) := Lib.hid (row_apart hrow H8.out.1.mac.lt); have H9 : Hid (Ow w b q4 q5 q7 X1 V1 X2 V2 M y9 ∧ y9.cell? ⟨q9, 0, none⟩ = some (.int .u64 (A1 : Nat)) ∧ IsHs y9 a 13 (sib (mg M) A1) ∧ 13 ≤ c) := Lib.hid ⟨H8.out.1.next hb, keep1 hb H8.out.2, hsa, hc⟩; clear hb hc hcm hna hrow hsa HPR)
        | ((with_reducible refine wpList_store_row (P := Tryd.prog) (w := y9.alloc (.cells #[.int .u64 0, .slice none 0 0] 54)) ?_ 54 (.tmp 16) (.tmp 85) ?_ y9.heap.size #[.int .u64 (M.mem A1), .slice a 13 c] ?_ ?_ 54 #[.int .u64 0, .slice none 0 0] (heap_alloc_last y9 _) infPt ?_ rfl ?_); (· exact rfl); (· exact rfl); (· exact rfl); (· exact rfl); (· exact rfl); rw [World.setRow_alloc_new]; simp only [Act.put]))
      clear k7
      have HNB : Hid (q9 ≠ b ∧ y9.heap.size ≠ b ∧ ∀ x o, a = some ⟨x, o, none⟩ → x ≠ b) := Lib.hid ⟨HNE9.out.2.2.1, by have := H9.out.1.mac.lt; omega, HAB.out⟩
      have H10 : Hid (Ow w b q4 q5 q7 X1 V1 X2 V2 M (y9.alloc (.cells #[.int .u64 (M.mem A1), .slice a 13 c] 54)) ∧ (y9.alloc (.cells #[.int .u64 (M.mem A1), .slice a 13 c] 54)).cell? ⟨q9, 0, none⟩ = some (.int .u64 (A1 : Nat)) ∧ IsHs (y9.alloc (.cells #[.int .u64 (M.mem A1), .slice a 13 c] 54)) a 13 (sib (mg M) A1) ∧ 13 ≤ c ∧ Box2 (y9.alloc (.cells #[.int .u64 (M.mem A1), .slice a 13 c] 54)) y9.heap.size 54 (.int .u64 (M.mem A1)) (.slice a 13 c)) := Lib.hid ⟨H9.out.1.next (ba _ _), keep1 (ba _ _) H9.out.2.1, H9.out.2.2.1.below (ba _ _), H9.out.2.2.2, Box2.new y9 54 _ _⟩
      clear H8 H9
      generalize y9.alloc (.cells #[.int .u64 (M.mem A1), .slice a 13 c] 54) = y10 at *
      generalize y9.heap.size = q16 at *
      have HRO := Lib.hid (Root_walk y10 b M H10.out.1.mac HX.out.2.2.2.2.1 (ktab_below HT.out H10.out.1.below))
      have k7 := H10.out.1.c7
      go_upto_region 12 with (first
        | (go_at_call 14; (with_reducible refine HRO.out.mono ?_); rintro e y11 ⟨he, hb⟩; obtain rfl : e = _ := he; have H11 : Hid (Ow w b q4 q5 q7 X1 V1 X2 V2 M y11 ∧ y11.cell? ⟨q9, 0, none⟩ = some (.int .u64 (A1 : Nat)) ∧ IsHs y11 a 13 (sib (mg M) A1) ∧ 13 ≤ c ∧ Box2 y11 q16 54 (.int .u64 (M.mem A1)) (.slice a 13 c)) := Lib.hid ⟨H10.out.1.next hb, keep1 hb H10.out.2.1, H10.out.2.2.1.below hb, H10.out.2.2.2.1, H10.out.2.2.2.2.below hb⟩; clear hb HRO)
        | ((with_reducible refine wpList_store_row (P := Tryd.prog) (w := y11.alloc (.cells zh 42)) ?_ 42 (.tmp 18) (.tmp 90) ?_ y11.heap.size (tab 32 fun i => bv (mroot M i)) ?_ ?_ 42 zh (heap_alloc_last y11 _) (infH _) ?_ (one_bv _ _) ?_); (· exact rfl); (· exact rfl); (· exact rfl); (· exact rfl); (· rw [HZI.out.2.2, tab_size]); rw [World.setRow_alloc_new]; simp only [Act.put]))
      clear k7 H10
      have HB12 : Hid (Below y11.heap.size y11 (y11.alloc (.cells (tab 32 fun i => bv (mroot M i)) 42))) := Lib.hid (ba _ _)
      have HT18 : Hid (IsTab (y11.alloc (.cells (tab 32 fun i => bv (mroot M i)) 42)) y11.heap.size 42 32 fun i => bv (mroot M i)) := Lib.hid (IsTab.new y11 _ 32 _)
      have HNQ : Hid (b ≠ y11.heap.size) := Lib.hid (by have := H11.out.1.mac.lt; omega)
      generalize y11.alloc (.cells (tab 32 fun i => bv (mroot M i)) 42) = y12 at *
      generalize hq18 : y11.heap.size = q18 at *
      have HQ18 := Lib.hid hq18
      clear hq18
      have HB13 : Hid (Below q18 y11 y12.drew) := Lib.hid HB12.out.drew
      refine wp_region_og (fun z : World => Below q18 y11 z) (.take 0 (.take 1 (.take 2 (.take 3 (.take 4 (.take 5 (.take 6 .done))))))) (by kernel_rfl) (by kernel_rfl) HB13.out ?_
      have HT18 := Lib.hid HT18.out.drew
      have HT18 : Hid (IsTab y12.drew q18 42 32 fun i => bv (mroot M i)) := Lib.hid HT18.out
      clear HB12
      generalize y12.drew = y13 at *
      refine og_ld (some 92) 24 (.tmp 7) (.pointer (some ⟨q7, 0, none⟩)) (.pointer (some ⟨b, 0, none⟩)) rfl rfl (by go_simp) rfl rfl (fun y hy => by have h := keep1 (HQ18.out ▸ hy) H11.out.1.c7; simp [Instr.loadAt, go_sem, h, Tryd.underlying24]) ?_
      simp only [Act.put, pS]
      refine og_ld (some 93) 33 (.tmp 9) (.pointer (some ⟨q9, 0, none⟩)) (.int .u64 (A1 : Nat)) rfl rfl (by go_simp) rfl rfl (fun y hy => by have h := keep1 (HQ18.out ▸ hy) H11.out.2.1; simp [Instr.loadAt, go_sem, h, Tryd.underlying33]) ?_
      simp only [Act.put, pS]
      refine og_tk (some 94) (.pointer (some ⟨b, 0, none⟩)) rfl rfl (by go_simp) (fun _ _ => by simp [execOp, go_sem]) ?_
      simp only [Act.put, pS]
      refine og_tk (some 95) (.pointer (some ⟨b, 0, none⟩)) rfl rfl (by go_simp) (fun _ _ => by simp [execOp, go_sem]) ?_
      simp only [Act.put, pS]
      refine og_tk (some 96) (.pointer (some ⟨b, A1, none⟩)) rfl rfl (by go_simp) (fun y hy => by have h := ixMemU b A1 HX.out.2.2.1 y; simp [execOp, go_sem, h, Result.andThen]) ?_
      simp only [Act.put, pS]
      refine og_ld (some 97) 33 (.tmp 96) (.pointer (some ⟨b, A1, none⟩)) (.int .u64 (M.mem A1)) rfl rfl (by go_simp) rfl rfl (fun y hy => by have h := ((H11.out.1.next (HQ18.out ▸ hy)).mac.mem HX.out.2.2.1); simp [Instr.loadAt, go_sem, h, Tryd.underlying33]) ?_
      simp only [Act.put, pS]
      refine og_tk (some 20) (.int .u64 (M.mem A1)) rfl rfl (by go_simp) (fun _ _ => by simp [execOp, go_sem]) ?_
      simp only [Act.put, pS]
      refine og_done (NoPanic.normal ?_)
      have HO13 : Hid (Ow w b q4 q5 q7 X1 V1 X2 V2 M y13.drew ∧ y13.drew.cell? ⟨q9, 0, none⟩ = some (.int .u64 (A1 : Nat)) ∧ IsHs y13.drew a 13 (sib (mg M) A1) ∧ 13 ≤ c ∧ Box2 y13.drew q16 54 (.int .u64 (M.mem A1)) (.slice a 13 c) ∧ IsTab y13.drew q18 42 32 fun i => bv (mroot M i)) := Lib.hid (by
        have hb : Below y11.heap.size y11 y13.drew := HQ18.out ▸ HB13.out.drew
        exact ⟨H11.out.1.next hb, keep1 hb H11.out.2.1, H11.out.2.2.1.below hb, H11.out.2.2.2.1, H11.out.2.2.2.2.below hb, HT18.out⟩)
      clear H11 HB13 HT18
      go_upto_region 13 with (fail)
      refine wp_region_og (fun z : World => z.cell? ⟨q7, 0, none⟩ = some (.pointer (some ⟨b, 0, none⟩)) ∧ z.cell? ⟨q9, 0, none⟩ = some (.int .u64 (A1 : Nat)) ∧ Box2 z q4 61 (.int .u64 X1) (.int .u64 V1)) (.take 0 (.take 1 (.take 2 (.take 3 (.take 4 (.take 5 (.take 6 (.one 7 .done)))))))) (by kernel_rfl) (by kernel_rfl) ⟨HO13.out.1.c7, HO13.out.2.1, HO13.out.1.b4⟩ ?_
      generalize y13.drew = z3 at *
      refine og_ld (some 98) 24 (.tmp 7) (.pointer (some ⟨q7, 0, none⟩)) (.pointer (some ⟨b, 0, none⟩)) rfl rfl (by go_simp) rfl rfl (fun y hy => by have h := hy.1; simp [Instr.loadAt, go_sem, h, Tryd.underlying24]) ?_
      simp only [Act.put, pS]
      refine og_ld (some 99) 33 (.tmp 9) (.pointer (some ⟨q9, 0, none⟩)) (.int .u64 (A1 : Nat)) rfl rfl (by go_simp) rfl rfl (fun y hy => by have h := hy.2.1; simp [Instr.loadAt, go_sem, h, Tryd.underlying33]) ?_
      simp only [Act.put, pS]
      refine og_tk (some 100) (.pointer (some ⟨q4, 1, none⟩)) rfl rfl (by go_simp) (fun _ _ => by simp [execOp, go_sem]) ?_
      simp only [Act.put, pS]
      refine og_ld (some 101) 33 (.tmp 100) (.pointer (some ⟨q4, 1, none⟩)) (.int .u64 V1) rfl rfl (by go_simp) rfl rfl (fun y hy => by have h := hy.2.2.k1; simp [Instr.loadAt, go_sem, h, Tryd.underlying33]) ?_
      simp only [Act.put, pS]
      refine og_tk (some 102) (.pointer (some ⟨b, 0, none⟩)) rfl rfl (by go_simp) (fun _ _ => by simp [execOp, go_sem]) ?_
      simp only [Act.put, pS]
      refine og_tk (some 103) (.pointer (some ⟨b, 0, none⟩)) rfl rfl (by go_simp) (fun _ _ => by simp [execOp, go_sem]) ?_
      simp only [Act.put, pS]
      refine og_tk (some 104) (.pointer (some ⟨b, A1, none⟩)) rfl rfl (by go_simp) (fun y hy => by have h := ixMemU b A1 HX.out.2.2.1 y; simp [execOp, go_sem, h, Result.andThen]) ?_
      simp only [Act.put, pS]
      have kd := HO13.out.1.mac.mem HX.out.2.2.1
      have fd := HO13.out.1.mac.fz A1
      have H14 : Hid (Ow w b q4 q5 q7 X1 V1 X2 V2 (setM M A1 V1) (z3.setCell ⟨b, A1, none⟩ (.int .u64 (V1 : Nat))) ∧ (z3.setCell ⟨b, A1, none⟩ (.int .u64 (V1 : Nat))).cell? ⟨q9, 0, none⟩ = some (.int .u64 (A1 : Nat)) ∧ IsHs (z3.setCell ⟨b, A1, none⟩ (.int .u64 (V1 : Nat))) a 13 (sib (mg M) A1) ∧ 13 ≤ c ∧ Box2 (z3.setCell ⟨b, A1, none⟩ (.int .u64 (V1 : Nat))) q16 54 (.int .u64 (M.mem A1)) (.slice a 13 c) ∧ IsTab (z3.setCell ⟨b, A1, none⟩ (.int .u64 (V1 : Nat))) q18 42 32 fun i => bv (mroot M i)) := Lib.hid (by
        have g := HO13.out
        have n := HNB.out
        refine ⟨g.1.set HX.out.2.2.1 V1, by rw [cell_setN n.1]; exact g.2.1, ?_, g.2.2.2.1, IsTab.keep g.2.2.2.2.1 n.2.1, IsTab.keep g.2.2.2.2.2 (Ne.symm HNQ.out)⟩
        rcases g.2.2.1 with h | ⟨x, o, e, h⟩
        · exact .inl h
        · refine .inr ⟨x, o, e, fun k j hk hj => ?_⟩
          rw [cell_setN (n.2.2 x o e)]; exact h k j hk hj)
      refine og_f rfl (by go_simp) fun K hK => ?_
      go_simp
      refine hK _ _ ⟨H14.out.1.c7, H14.out.2.1, H14.out.1.b4⟩ ?_
      clear hK K kd fd HO13
      try simp only [List.getElem_toArray, List.getElem_cons_succ, List.getElem_cons_zero, Act.put, pS]
      refine og_done (NoPanic.normal ?_)
      generalize z3.setCell ⟨b, A1, none⟩ (.int .u64 (V1 : Nat)) = y14 at *
      have HRO := Lib.hid (Root_walk y14 b (setM M A1 V1) H14.out.1.mac (mem_setM HX.out.2.2.2.2.1 A1 HX.out.2.2.2.2.2.1) (ktab_below HT.out H14.out.1.below))
      have k7 := H14.out.1.c7
      go_upto_region 15 with (first
        | (go_at_call 14; (with_reducible refine HRO.out.mono ?_); rintro e y15 ⟨he, hb⟩; obtain rfl : e = _ := he; have H15 : Hid (Ow w b q4 q5 q7 X1 V1 X2 V2 (setM M A1 V1) y15 ∧ IsHs y15 a 13 (sib (mg M) A1) ∧ 13 ≤ c ∧ Box2 y15 q16 54 (.int .u64 (M.mem A1)) (.slice a 13 c) ∧ IsTab y15 q18 42 32 fun i => bv (mroot M i)) := Lib.hid ⟨H14.out.1.next hb, H14.out.2.2.1.below hb, H14.out.2.2.2.1, H14.out.2.2.2.2.1.below hb, H14.out.2.2.2.2.2.below hb⟩; clear hb HRO)
        | ((with_reducible refine wpList_store_row (P := Tryd.prog) (w := y15.alloc (.cells zh 42)) ?_ 42 (.tmp 21) (.tmp 108) ?_ y15.heap.size (tab 32 fun i => bv (mroot (setM M A1 V1) i)) ?_ ?_ 42 zh (heap_alloc_last y15 _) (infH _) ?_ (one_bv _ _) ?_); (· exact rfl); (· exact rfl); (· exact rfl); (· exact rfl); (· rw [HZI.out.2.2, tab_size]); rw [World.setRow_alloc_new]; simp only [Act.put]))
      clear k7 H14
      have HB16 : Hid (Below y15.heap.size y15 (y15.alloc (.cells (tab 32 fun i => bv (mroot (setM M A1 V1) i)) 42))) := Lib.hid (ba _ _)
      have HT21 : Hid (IsTab (y15.alloc (.cells (tab 32 fun i => bv (mroot (setM M A1 V1) i)) 42)) y15.heap.size 42 32 fun i => bv (mroot (setM M A1 V1) i)) := Lib.hid (IsTab.new y15 _ 32 _)
      generalize y15.alloc (.cells (tab 32 fun i => bv (mroot (setM M A1 V1) i)) 42) = y16 at *
      have H16 : Hid (Ow w b q4 q5 q7 X1 V1 X2 V2 (setM M A1 V1) y16 ∧ IsHs y16 a 13 (sib (mg M) A1) ∧ 13 ≤ c ∧ Box2 y16 q16 54 (.int .u64 (M.mem A1)) (.slice a 13 c) ∧ IsTab y16 q18 42 32 fun i => bv (mroot M i)) := Lib.hid ⟨H15.out.1.next HB16.out, H15.out.2.1.below HB16.out, H15.out.2.2.1, H15.out.2.2.2.1.below HB16.out, H15.out.2.2.2.2.below HB16.out⟩
      clear H15 HB16
      generalize y15.heap.size = q21 at *
      have HL21 := Lib.hid (load32h HT21.out)
      have HL16 := Lib.hid (loadPt H16.out.2.2.2.1)
      have hh := Holds_ok y16 (mroot (setM M A1 V1)) A1 (M.mem A1) c a (sib (mg M) A1) H16.out.2.1 H16.out.2.2.1 HX.out.2.2.2.1 (HX.out.2.2.2.2.1 _) (ktab_below HT.out H16.out.1.below)
      rw [own_fold M HX.out.2.2.2.1, same_comm] at hh
      have HH := Lib.hid hh
      clear hh
      go_upto_region 16 with (first
        | ((with_reducible refine wpList_loadE (P := Tryd.prog) (w := y16) (ty := 42) (x := .tmp 21) (p := .pointer (some ⟨q21, 0, none⟩)) (v := dv (mroot (setM M A1 V1))) ?_ ?_ ?_ HL21.out ?_); (· exact rfl); (· exact rfl); (· exact rfl))
        | ((with_reducible refine wpList_loadE (P := Tryd.prog) (w := y16) (ty := 54) (x := .tmp 16) (p := .pointer (some ⟨q16, 0, none⟩)) (v := .agg #[.int .u64 (M.mem A1), .slice a 13 c]) ?_ ?_ ?_ HL16.out ?_); (· exact rfl); (· exact rfl); (· exact rfl))
        | (go_at_call 24; (refine HH.out.mono ?_); rintro e y17 ⟨he, hb⟩; obtain rfl : e = _ := he; have H17 : Hid ((IsTab y17 q21 42 32 fun i => bv (mroot (setM M A1 V1) i)) ∧ (IsTab y17 q18 42 32 fun i => bv (mroot M i)) ∧ Below w.heap.size w y17) := Lib.hid ⟨HT21.out.below hb, H16.out.2.2.2.2.below hb, (H16.out.1.next hb).below⟩; clear hb HH))
      clear HL21 HL16 H16 HT21
      have HL21 := Lib.hid (load32h H17.out.1)
      have HL18 := Lib.hid (load32h H17.out.2.1)
      go_wp2_with (first
        | ((with_reducible refine wpList_loadG (P := Tryd.prog) (w := y17) (ty := 42) (x := .tmp 21) (p := .pointer (some ⟨q21, 0, none⟩)) (v := dv (mroot (setM M A1 V1))) ?_ ?_ ?_ HL21.out ?_); rotate_left; (· exact rfl); (· exact rfl); rotate_left; (· go_simp))
        | ((with_reducible refine wpList_loadG (P := Tryd.prog) (w := y17) (ty := 42) (x := .tmp 18) (p := .pointer (some ⟨q18, 0, none⟩)) (v := dv (mroot M)) ?_ ?_ ?_ HL18.out ?_); rotate_left; (· exact rfl); (· exact rfl); rotate_left; (· go_simp))
        | (refine wpList_eqG (by go_simp) (.tmp 133) (.tmp 134) 42 (mroot (setM M A1 V1)) (mroot M) rfl rfl rfl ?_))
      exact bodyPost_ret (v := .bool true) (by simp [results, Tryd.results4, go_sem]) rfl ⟨rfl, H17.out.2.2⟩
  · have ea : (setM (setM M A1 V1) A2 V2).mem A1 = V1 := by show (if A1 = A2 then V2 else if A1 = A1 then V1 else _) = V1; rw [if_neg hA, if_pos rfl]
    have eb : (setM (setM M A2 V2) A1 V1).mem A1 = V1 := by show (if A1 = A1 then V1 else _) = V1; rw [if_pos rfl]
    rw [ea, eb]
    have t1 : (((A1 : Nat) : Int) == ((A2 : Nat) : Int)) = false := by simp; omega
    have t0 : ¬ (((A1 : Nat) : Int) = ((A2 : Nat) : Int)) := by omega
    have k9 := H8.out.2
    have k41 := H8.out.1.b4.k1
    have k51 := H8.out.1.b5.k1
    clear ea eb hA
    go_upto_region 10 with (fail)
    clear k9 k41 k51 t1 t0
    have HPR := Lib.hid (Prove_ok y8 b A2 M H8.out.1.mac HX.out.2.2.2.2.1 HX.out.2.2.2.1 (ktab_below HT.out H8.out.1.below))
    have k7 := H8.out.1.c7
    go_upto_region 11 with (first
      | (go_at_call 20; (refine HPR.out.mono ?_); rintro e y9 ⟨a, c, he, hc, hcm, hna, hrow, hb⟩; obtain rfl : e = _ := he; obtain ⟨a9, c9, ev, hsa, _⟩ := hs_of hrow; obtain ⟨rfl, _, rfl⟩ := Value.slice.inj ev; have HAB : Hid (∀ x o, a = some ⟨x, o, none⟩ → x ≠ b) := Lib.hid (row_apart hrow H8.out.1.mac.lt); have H9 : Hid (Ow w b q4 q5 q7 X1 V1 X2 V2 M y9 ∧ y9.cell? ⟨q9, 0, none⟩ = some (.int .u64 (A1 : Nat)) ∧ IsHs y9 a 13 (sib (mg M) A2) ∧ 13 ≤ c) := Lib.hid ⟨H8.out.1.next hb, keep1 hb H8.out.2, hsa, hc⟩; clear hb hc hcm hna hrow hsa HPR)
      | ((with_reducible refine wpList_store_row (P := Tryd.prog) (w := y9.alloc (.cells #[.int .u64 0, .slice none 0 0] 54)) ?_ 54 (.tmp 16) (.tmp 85) ?_ y9.heap.size #[.int .u64 (M.mem A2), .slice a 13 c] ?_ ?_ 54 #[.int .u64 0, .slice none 0 0] (heap_alloc_last y9 _) infPt ?_ rfl ?_); (· exact rfl); (· exact rfl); (· exact rfl); (· exact rfl); (· exact rfl); rw [World.setRow_alloc_new]; simp only [Act.put]))
    clear k7
    have HNB : Hid (q9 ≠ b ∧ y9.heap.size ≠ b ∧ ∀ x o, a = some ⟨x, o, none⟩ → x ≠ b) := Lib.hid ⟨HNE9.out.2.2.1, by have := H9.out.1.mac.lt; omega, HAB.out⟩
    have H10 : Hid (Ow w b q4 q5 q7 X1 V1 X2 V2 M (y9.alloc (.cells #[.int .u64 (M.mem A2), .slice a 13 c] 54)) ∧ (y9.alloc (.cells #[.int .u64 (M.mem A2), .slice a 13 c] 54)).cell? ⟨q9, 0, none⟩ = some (.int .u64 (A1 : Nat)) ∧ IsHs (y9.alloc (.cells #[.int .u64 (M.mem A2), .slice a 13 c] 54)) a 13 (sib (mg M) A2) ∧ 13 ≤ c ∧ Box2 (y9.alloc (.cells #[.int .u64 (M.mem A2), .slice a 13 c] 54)) y9.heap.size 54 (.int .u64 (M.mem A2)) (.slice a 13 c)) := Lib.hid ⟨H9.out.1.next (ba _ _), keep1 (ba _ _) H9.out.2.1, H9.out.2.2.1.below (ba _ _), H9.out.2.2.2, Box2.new y9 54 _ _⟩
    clear H8 H9
    generalize y9.alloc (.cells #[.int .u64 (M.mem A2), .slice a 13 c] 54) = y10 at *
    generalize y9.heap.size = q16 at *
    have HRO := Lib.hid (Root_walk y10 b M H10.out.1.mac HX.out.2.2.2.2.1 (ktab_below HT.out H10.out.1.below))
    have k7 := H10.out.1.c7
    go_upto_region 12 with (first
      | (go_at_call 14; (with_reducible refine HRO.out.mono ?_); rintro e y11 ⟨he, hb⟩; obtain rfl : e = _ := he; have H11 : Hid (Ow w b q4 q5 q7 X1 V1 X2 V2 M y11 ∧ y11.cell? ⟨q9, 0, none⟩ = some (.int .u64 (A1 : Nat)) ∧ IsHs y11 a 13 (sib (mg M) A2) ∧ 13 ≤ c ∧ Box2 y11 q16 54 (.int .u64 (M.mem A2)) (.slice a 13 c)) := Lib.hid ⟨H10.out.1.next hb, keep1 hb H10.out.2.1, H10.out.2.2.1.below hb, H10.out.2.2.2.1, H10.out.2.2.2.2.below hb⟩; clear hb HRO)
      | ((with_reducible refine wpList_store_row (P := Tryd.prog) (w := y11.alloc (.cells zh 42)) ?_ 42 (.tmp 18) (.tmp 90) ?_ y11.heap.size (tab 32 fun i => bv (mroot M i)) ?_ ?_ 42 zh (heap_alloc_last y11 _) (infH _) ?_ (one_bv _ _) ?_); (· exact rfl); (· exact rfl); (· exact rfl); (· exact rfl); (· rw [HZI.out.2.2, tab_size]); rw [World.setRow_alloc_new]; simp only [Act.put]))
    clear k7 H10
    have HB12 : Hid (Below y11.heap.size y11 (y11.alloc (.cells (tab 32 fun i => bv (mroot M i)) 42))) := Lib.hid (ba _ _)
    have HT18 : Hid (IsTab (y11.alloc (.cells (tab 32 fun i => bv (mroot M i)) 42)) y11.heap.size 42 32 fun i => bv (mroot M i)) := Lib.hid (IsTab.new y11 _ 32 _)
    have HNQ : Hid (b ≠ y11.heap.size) := Lib.hid (by have := H11.out.1.mac.lt; omega)
    generalize y11.alloc (.cells (tab 32 fun i => bv (mroot M i)) 42) = y12 at *
    generalize hq18 : y11.heap.size = q18 at *
    have HQ18 := Lib.hid hq18
    clear hq18
    have HB13 : Hid (Below q18 y11 y12.drew) := Lib.hid HB12.out.drew
    refine wp_region_og (fun z : World => Below q18 y11 z) (.take 0 (.take 1 (.take 2 (.take 3 (.take 4 (.take 5 (.take 6 .done))))))) (by kernel_rfl) (by kernel_rfl) HB13.out ?_
    have HT18 := Lib.hid HT18.out.drew
    have HT18 : Hid (IsTab y12.drew q18 42 32 fun i => bv (mroot M i)) := Lib.hid HT18.out
    clear HB12
    generalize y12.drew = y13 at *
    refine og_ld (some 92) 24 (.tmp 7) (.pointer (some ⟨q7, 0, none⟩)) (.pointer (some ⟨b, 0, none⟩)) rfl rfl (by go_simp) rfl rfl (fun y hy => by have h := keep1 (HQ18.out ▸ hy) H11.out.1.c7; simp [Instr.loadAt, go_sem, h, Tryd.underlying24]) ?_
    simp only [Act.put, pS]
    refine og_ld (some 93) 33 (.tmp 9) (.pointer (some ⟨q9, 0, none⟩)) (.int .u64 (A1 : Nat)) rfl rfl (by go_simp) rfl rfl (fun y hy => by have h := keep1 (HQ18.out ▸ hy) H11.out.2.1; simp [Instr.loadAt, go_sem, h, Tryd.underlying33]) ?_
    simp only [Act.put, pS]
    refine og_tk (some 94) (.pointer (some ⟨b, 0, none⟩)) rfl rfl (by go_simp) (fun _ _ => by simp [execOp, go_sem]) ?_
    simp only [Act.put, pS]
    refine og_tk (some 95) (.pointer (some ⟨b, 0, none⟩)) rfl rfl (by go_simp) (fun _ _ => by simp [execOp, go_sem]) ?_
    simp only [Act.put, pS]
    refine og_tk (some 96) (.pointer (some ⟨b, A1, none⟩)) rfl rfl (by go_simp) (fun y hy => by have h := ixMemU b A1 HX.out.2.2.1 y; simp [execOp, go_sem, h, Result.andThen]) ?_
    simp only [Act.put, pS]
    refine og_ld (some 97) 33 (.tmp 96) (.pointer (some ⟨b, A1, none⟩)) (.int .u64 (M.mem A1)) rfl rfl (by go_simp) rfl rfl (fun y hy => by have h := ((H11.out.1.next (HQ18.out ▸ hy)).mac.mem HX.out.2.2.1); simp [Instr.loadAt, go_sem, h, Tryd.underlying33]) ?_
    simp only [Act.put, pS]
    refine og_tk (some 20) (.int .u64 (M.mem A1)) rfl rfl (by go_simp) (fun _ _ => by simp [execOp, go_sem]) ?_
    simp only [Act.put, pS]
    refine og_done (NoPanic.normal ?_)
    have HO13 : Hid (Ow w b q4 q5 q7 X1 V1 X2 V2 M y13.drew ∧ y13.drew.cell? ⟨q9, 0, none⟩ = some (.int .u64 (A1 : Nat)) ∧ IsHs y13.drew a 13 (sib (mg M) A2) ∧ 13 ≤ c ∧ Box2 y13.drew q16 54 (.int .u64 (M.mem A2)) (.slice a 13 c) ∧ IsTab y13.drew q18 42 32 fun i => bv (mroot M i)) := Lib.hid (by
      have hb : Below y11.heap.size y11 y13.drew := HQ18.out ▸ HB13.out.drew
      exact ⟨H11.out.1.next hb, keep1 hb H11.out.2.1, H11.out.2.2.1.below hb, H11.out.2.2.2.1, H11.out.2.2.2.2.below hb, HT18.out⟩)
    clear H11 HB13 HT18
    go_upto_region 13 with (fail)
    refine wp_region_og (fun z : World => z.cell? ⟨q7, 0, none⟩ = some (.pointer (some ⟨b, 0, none⟩)) ∧ z.cell? ⟨q9, 0, none⟩ = some (.int .u64 (A1 : Nat)) ∧ Box2 z q4 61 (.int .u64 X1) (.int .u64 V1)) (.take 0 (.take 1 (.take 2 (.take 3 (.take 4 (.take 5 (.take 6 (.one 7 .done)))))))) (by kernel_rfl) (by kernel_rfl) ⟨HO13.out.1.c7, HO13.out.2.1, HO13.out.1.b4⟩ ?_
    generalize y13.drew = z3 at *
    refine og_ld (some 98) 24 (.tmp 7) (.pointer (some ⟨q7, 0, none⟩)) (.pointer (some ⟨b, 0, none⟩)) rfl rfl (by go_simp) rfl rfl (fun y hy => by have h := hy.1; simp [Instr.loadAt, go_sem, h, Tryd.underlying24]) ?_
    simp only [Act.put, pS]
    refine og_ld (some 99) 33 (.tmp 9) (.pointer (some ⟨q9, 0, none⟩)) (.int .u64 (A1 : Nat)) rfl rfl (by go_simp) rfl rfl (fun y hy => by have h := hy.2.1; simp [Instr.loadAt, go_sem, h, Tryd.underlying33]) ?_
    simp only [Act.put, pS]
    refine og_tk (some 100) (.pointer (some ⟨q4, 1, none⟩)) rfl rfl (by go_simp) (fun _ _ => by simp [execOp, go_sem]) ?_
    simp only [Act.put, pS]
    refine og_ld (some 101) 33 (.tmp 100) (.pointer (some ⟨q4, 1, none⟩)) (.int .u64 V1) rfl rfl (by go_simp) rfl rfl (fun y hy => by have h := hy.2.2.k1; simp [Instr.loadAt, go_sem, h, Tryd.underlying33]) ?_
    simp only [Act.put, pS]
    refine og_tk (some 102) (.pointer (some ⟨b, 0, none⟩)) rfl rfl (by go_simp) (fun _ _ => by simp [execOp, go_sem]) ?_
    simp only [Act.put, pS]
    refine og_tk (some 103) (.pointer (some ⟨b, 0, none⟩)) rfl rfl (by go_simp) (fun _ _ => by simp [execOp, go_sem]) ?_
    simp only [Act.put, pS]
    refine og_tk (some 104) (.pointer (some ⟨b, A1, none⟩)) rfl rfl (by go_simp) (fun y hy => by have h := ixMemU b A1 HX.out.2.2.1 y; simp [execOp, go_sem, h, Result.andThen]) ?_
    simp only [Act.put, pS]
    have kd := HO13.out.1.mac.mem HX.out.2.2.1
    have fd := HO13.out.1.mac.fz A1
    have H14 : Hid (Ow w b q4 q5 q7 X1 V1 X2 V2 (setM M A1 V1) (z3.setCell ⟨b, A1, none⟩ (.int .u64 (V1 : Nat))) ∧ (z3.setCell ⟨b, A1, none⟩ (.int .u64 (V1 : Nat))).cell? ⟨q9, 0, none⟩ = some (.int .u64 (A1 : Nat)) ∧ IsHs (z3.setCell ⟨b, A1, none⟩ (.int .u64 (V1 : Nat))) a 13 (sib (mg M) A2) ∧ 13 ≤ c ∧ Box2 (z3.setCell ⟨b, A1, none⟩ (.int .u64 (V1 : Nat))) q16 54 (.int .u64 (M.mem A2)) (.slice a 13 c) ∧ IsTab (z3.setCell ⟨b, A1, none⟩ (.int .u64 (V1 : Nat))) q18 42 32 fun i => bv (mroot M i)) := Lib.hid (by
      have g := HO13.out
      have n := HNB.out
      refine ⟨g.1.set HX.out.2.2.1 V1, by rw [cell_setN n.1]; exact g.2.1, ?_, g.2.2.2.1, IsTab.keep g.2.2.2.2.1 n.2.1, IsTab.keep g.2.2.2.2.2 (Ne.symm HNQ.out)⟩
      rcases g.2.2.1 with h | ⟨x, o, e, h⟩
      · exact .inl h
      · refine .inr ⟨x, o, e, fun k j hk hj => ?_⟩
        rw [cell_setN (n.2.2 x o e)]; exact h k j hk hj)
    refine og_f rfl (by go_simp) fun K hK => ?_
    go_simp
    refine hK _ _ ⟨H14.out.1.c7, H14.out.2.1, H14.out.1.b4⟩ ?_
    clear hK K kd fd HO13
    try simp only [List.getElem_toArray, List.getElem_cons_succ, List.getElem_cons_zero, Act.put, pS]
    refine og_done (NoPanic.normal ?_)
    generalize z3.setCell ⟨b, A1, none⟩ (.int .u64 (V1 : Nat)) = y14 at *
    have HRO := Lib.hid (Root_walk y14 b (setM M A1 V1) H14.out.1.mac (mem_setM HX.out.2.2.2.2.1 A1 HX.out.2.2.2.2.2.1) (ktab_below HT.out H14.out.1.below))
    have k7 := H14.out.1.c7
    go_upto_region 15 with (first
      | (go_at_call 14; (with_reducible refine HRO.out.mono ?_); rintro e y15 ⟨he, hb⟩; obtain rfl : e = _ := he; have H15 : Hid (Ow w b q4 q5 q7 X1 V1 X2 V2 (setM M A1 V1) y15 ∧ IsHs y15 a 13 (sib (mg M) A2) ∧ 13 ≤ c ∧ Box2 y15 q16 54 (.int .u64 (M.mem A2)) (.slice a 13 c) ∧ IsTab y15 q18 42 32 fun i => bv (mroot M i)) := Lib.hid ⟨H14.out.1.next hb, H14.out.2.2.1.below hb, H14.out.2.2.2.1, H14.out.2.2.2.2.1.below hb, H14.out.2.2.2.2.2.below hb⟩; clear hb HRO)
      | ((with_reducible refine wpList_store_row (P := Tryd.prog) (w := y15.alloc (.cells zh 42)) ?_ 42 (.tmp 21) (.tmp 108) ?_ y15.heap.size (tab 32 fun i => bv (mroot (setM M A1 V1) i)) ?_ ?_ 42 zh (heap_alloc_last y15 _) (infH _) ?_ (one_bv _ _) ?_); (· exact rfl); (· exact rfl); (· exact rfl); (· exact rfl); (· rw [HZI.out.2.2, tab_size]); rw [World.setRow_alloc_new]; simp only [Act.put]))
    clear k7 H14
    have HB16 : Hid (Below y15.heap.size y15 (y15.alloc (.cells (tab 32 fun i => bv (mroot (setM M A1 V1) i)) 42))) := Lib.hid (ba _ _)
    have HT21 : Hid (IsTab (y15.alloc (.cells (tab 32 fun i => bv (mroot (setM M A1 V1) i)) 42)) y15.heap.size 42 32 fun i => bv (mroot (setM M A1 V1) i)) := Lib.hid (IsTab.new y15 _ 32 _)
    generalize y15.alloc (.cells (tab 32 fun i => bv (mroot (setM M A1 V1) i)) 42) = y16 at *
    have H16 : Hid (Ow w b q4 q5 q7 X1 V1 X2 V2 (setM M A1 V1) y16 ∧ IsHs y16 a 13 (sib (mg M) A2) ∧ 13 ≤ c ∧ Box2 y16 q16 54 (.int .u64 (M.mem A2)) (.slice a 13 c) ∧ IsTab y16 q18 42 32 fun i => bv (mroot M i)) := Lib.hid ⟨H15.out.1.next HB16.out, H15.out.2.1.below HB16.out, H15.out.2.2.1, H15.out.2.2.2.1.below HB16.out, H15.out.2.2.2.2.below HB16.out⟩
    clear H15 HB16
    generalize y15.heap.size = q21 at *
    have HL21 := Lib.hid (load32h HT21.out)
    have HL16 := Lib.hid (loadPt H16.out.2.2.2.1)
    have hh := Holds_ok y16 (mroot (setM M A1 V1)) A2 (M.mem A2) c a (sib (mg M) A2) H16.out.2.1 H16.out.2.2.1 HX.out.2.2.2.1 (HX.out.2.2.2.2.1 _) (ktab_below HT.out H16.out.1.below)
    rw [own_fold M HX.out.2.2.2.1, same_comm] at hh
    have HH := Lib.hid hh
    clear hh
    go_upto_region 16 with (first
      | ((with_reducible refine wpList_loadE (P := Tryd.prog) (w := y16) (ty := 42) (x := .tmp 21) (p := .pointer (some ⟨q21, 0, none⟩)) (v := dv (mroot (setM M A1 V1))) ?_ ?_ ?_ HL21.out ?_); (· exact rfl); (· exact rfl); (· exact rfl))
      | ((with_reducible refine wpList_loadE (P := Tryd.prog) (w := y16) (ty := 54) (x := .tmp 16) (p := .pointer (some ⟨q16, 0, none⟩)) (v := .agg #[.int .u64 (M.mem A2), .slice a 13 c]) ?_ ?_ ?_ HL16.out ?_); (· exact rfl); (· exact rfl); (· exact rfl))
      | (go_at_call 24; (refine HH.out.mono ?_); rintro e y17 ⟨he, hb⟩; obtain rfl : e = _ := he; have H17 : Hid ((IsTab y17 q21 42 32 fun i => bv (mroot (setM M A1 V1) i)) ∧ (IsTab y17 q18 42 32 fun i => bv (mroot M i)) ∧ Below w.heap.size w y17) := Lib.hid ⟨HT21.out.below hb, H16.out.2.2.2.2.below hb, (H16.out.1.next hb).below⟩; clear hb HH))
    clear HL21 HL16 H16 HT21
    have HL21 := Lib.hid (load32h H17.out.1)
    have HL18 := Lib.hid (load32h H17.out.2.1)
    go_wp2_with (first
      | ((with_reducible refine wpList_loadG (P := Tryd.prog) (w := y17) (ty := 42) (x := .tmp 21) (p := .pointer (some ⟨q21, 0, none⟩)) (v := dv (mroot (setM M A1 V1))) ?_ ?_ ?_ HL21.out ?_); rotate_left; (· exact rfl); (· exact rfl); rotate_left; (· go_simp))
      | ((with_reducible refine wpList_loadG (P := Tryd.prog) (w := y17) (ty := 42) (x := .tmp 18) (p := .pointer (some ⟨q18, 0, none⟩)) (v := dv (mroot M)) ?_ ?_ ?_ HL18.out ?_); rotate_left; (· exact rfl); (· exact rfl); rotate_left; (· go_simp))
      | (refine wpList_eqG (by go_simp) (.tmp 133) (.tmp 134) 42 (mroot (setM M A1 V1)) (mroot M) rfl rfl rfl ?_))
    exact bodyPost_ret (v := .bool true) (by simp [results, Tryd.results4, go_sem]) rfl ⟨rfl, H17.out.2.2⟩
theorem commitOrder_walk (a0 : Option Addr) (len0 cap0 : Nat) (x1 v1 x2 v2 : Int) {w : World} (w0 : IsRecs [.u64, .u64] w a0 len0 cap0) (p1 : (Lit.int .u64 x1).wf = true) (p2 : (Lit.int .u64 v1).wf = true) (p3 : (Lit.int .u64 x2).wf = true) (p4 : (Lit.int .u64 v2).wf = true) (ht : Laid.KTab w) :
    Calls Tryd.prog 4 #[.slice a0 len0 cap0, .agg #[.int .u64 x1, .int .u64 v1], .agg #[.int .u64 x2, .int .u64 v2]] w fun e w' => e = .returned (.bool true) ∧ Below w.heap.size w w' := by
  obtain ⟨f, hl, hf, hfb⟩ := recs_cl w0
  have q1 : 0 ≤ x1 ∧ x1 ≤ 18446744073709551615 := ⟨of_decide_eq_true (Bool.and_eq_true_iff.1 p1).1, of_decide_eq_true (Bool.and_eq_true_iff.1 p1).2⟩
  have q2 : 0 ≤ v1 ∧ v1 ≤ 18446744073709551615 := ⟨of_decide_eq_true (Bool.and_eq_true_iff.1 p2).1, of_decide_eq_true (Bool.and_eq_true_iff.1 p2).2⟩
  have q3 : 0 ≤ x2 ∧ x2 ≤ 18446744073709551615 := ⟨of_decide_eq_true (Bool.and_eq_true_iff.1 p3).1, of_decide_eq_true (Bool.and_eq_true_iff.1 p3).2⟩
  have q4 : 0 ≤ v2 ∧ v2 ≤ 18446744073709551615 := ⟨of_decide_eq_true (Bool.and_eq_true_iff.1 p4).1, of_decide_eq_true (Bool.and_eq_true_iff.1 p4).2⟩
  obtain ⟨x1, rfl⟩ := Int.eq_ofNat_of_zero_le q1.1
  obtain ⟨v1, rfl⟩ := Int.eq_ofNat_of_zero_le q2.1
  obtain ⟨x2, rfl⟩ := Int.eq_ofNat_of_zero_le q3.1
  obtain ⟨v2, rfl⟩ := Int.eq_ofNat_of_zero_le q4.1
  exact order_in w a0 len0 cap0 x1 v1 x2 v2 f hl hf hfb (by omega) (by omega) ht
end Co
end Go.Proofs.YtgffohmneobblaaDoor
