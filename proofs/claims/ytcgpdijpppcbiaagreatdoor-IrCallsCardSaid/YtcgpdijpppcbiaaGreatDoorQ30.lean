/- Merged of Exb Exc. Own work. -/
import Derived.Test.YtcgpdijpppcbiaaGreatDoorQ29
import Derived.Test.YtcgpdijpppcbiaaGreatDoorQ13
import Derived.Test.YtcgpdijpppcbiaaGreatDoorQ20
namespace Go.Proofs.YtcgpdijpppcbiaaGreatDoor
open Go.RowKit
set_option linter.unusedVariables false
set_option linter.unusedSimpArgs false
section
variable {P : Program} {o : Oper} {a : Act} {w : World} {K : Act → World → Prop} {Q : Exit → Act → World → Prop}
theorem wp_callE2 (f : FuncId) (x x2 : Operand) (t t2 : TypeId) (ho : o.op = .call { callee := .value (.func f), args := #[x, x2], argTypes := #[t, t2] }) (p p2 : Value) (hx : a.eval x = p) (hx2 : a.eval x2 = p2) (hr : (callFunc f #[p, p2]).run P w = .ok (.enter f #[p, p2]) w) (hc : Calls P f #[p, p2] w fun e w' => ∃ v, e = .returned v ∧ K (a.put o.dst v) w') : o.wp P a w K Q := by
  have hr' : (execOp a.eval o).run P w = .ok (.enter f #[p, p2]) w := by
    subst hx hx2
    unfold execOp
    simp only [ho]
    simp only [resolve, invoke, Sem.run_bind, Sem.run_pure, Result.andThen_ok, List.map_toArray, List.map_cons, List.map_nil, show a.eval (.func f) = .func (.func f) #[] #[] from rfl, Array.empty_append]
    exact hr
  unfold Oper.wp
  rw [hr', Oper.upon_enter]
  exact hc.mono fun e w' ⟨v, he, hk⟩ => by rw [he]; exact hk
theorem wp_bs {o : Oper} {w' : World} {t : TypeId} {n : Nat} {parts : Array (Nat × Operand)} {v : Value} (ho : o.op = .buildSlice t n parts) (l : Array (Nat × Value)) (hl : (parts.map fun (i, x) => (i, a.eval x)) = l) (hr : (Instr.buildSlice t n l).run P w = .ok v w') (h : K (a.put o.dst v) w') : o.wp P a w K Q := by
  unfold Oper.wp execOp
  simp only [ho, hl]
  simp [hr]
  exact h
end
namespace Ir
open Kc
theorem elS {w : World} {D : Nat → Prop} {a : Option Addr} {n c b o : Nat} {x : Ef} (h : SlE w D (.slice a n c) x) (hc : w.cell? ⟨b, o, none⟩ = some (.slice a n c)) : ∃ a c, w.cell? ⟨b, o, none⟩ = some (.slice a x.len c) ∧ x.len < 1099511627776 ∧ (x = .nil ∨ ∃ b' o', a = some ⟨b', o', none⟩ ∧ EfAt w D x b' o') := by
  obtain ⟨a', c', e, hl, h⟩ := h
  injection e with e1 e2 e3
  subst e1; subst e2; subst e3
  exact ⟨_, _, hc, hl, h⟩
/-- An expression by itself, as a value. -/
def ExV (y : World) (v : Value) (op : Int) (n : Nat) (kids : Ef) : Prop := ∃ a m c, v = .agg #[.int .i64 op, .int .u64 n, .slice a m c] ∧ SlE y (fun _ => True) (.slice a m c) kids ∧ n < 18446744073709551616
theorem ExV.kept {y y' : World} {v : Value} {op : Int} {n : Nat} {k : Ef} (h : ExV y v op n k) (hk : Kept (fun _ => False) y y') : ExV y' v op n k := by
  obtain ⟨a, m, c, e, h1, h2⟩ := h
  exact ⟨a, m, c, e, h1.kept hk fun _ _ => id, h2⟩
theorem ExV.leaf (y : World) (op : Int) {n : Nat} (hn : n < 18446744073709551616) : ExV y (.agg #[.int .i64 op, .int .u64 n, .slice none 0 0]) op n .nil := ⟨none, 0, 0, rfl, slEn, hn⟩
theorem StV.of {y : World} {v : Value} {x : Sf} (h : StV y v x) : ∃ kind n ao an ak bo bn bk body els r, x = .cons kind n ao an ak bo bn bk body els r ∧ ∃ aA nA cA aB nB cB aC nC cC aD nD cD, v = .agg #[.int .i64 kind, .int .i64 n, .int .i64 ao, .int .u64 an, .slice aA nA cA, .int .i64 bo, .int .u64 bn, .slice aB nB cB, .slice aC nC cC, .slice aD nD cD] ∧
    SlE y (fun _ => True) (.slice aA nA cA) ak ∧ SlE y (fun _ => True) (.slice aB nB cB) bk ∧ SlS y (fun _ => True) (.slice aC nC cC) body ∧ SlS y (fun _ => True) (.slice aD nD cD) els ∧ an < 18446744073709551616 ∧ bn < 18446744073709551616 := by
  cases x with
  | nil => exact h.elim
  | cons kind n ao an ak bo bn bk body els r => exact ⟨kind, n, ao, an, ak, bo, bn, bk, body, els, r, rfl, h⟩
theorem buildX3 (l0_0 l0_1 l0_2 l1_0 l1_1 l1_2 l2_0 l2_1 l2_2 : Value) (w : World) : (Instr.buildSlice 28 3 #[(0, .agg #[l0_0, l0_1, l0_2]), (1, .agg #[l1_0, l1_1, l1_2]), (2, .agg #[l2_0, l2_1, l2_2])]).run Tryz.prog w = .ok (.slice (some ⟨w.heap.size, 0, none⟩) 3 3) (w.alloc (.cells #[l0_0, l0_1, l0_2, l1_0, l1_1, l1_2, l2_0, l2_1, l2_2] 30)) := by kernel_rfl
theorem ex3 {y : World} {D : Nat → Prop} {ao0 : Int} {an0 nA0 cA0 : Nat} {aA0 : Option Addr} {ak0 : Ef} {ao1 : Int} {an1 nA1 cA1 : Nat} {aA1 : Option Addr} {ak1 : Ef} {ao2 : Int} {an2 nA2 cA2 : Nat} {aA2 : Option Addr} {ak2 : Ef} (h0 : SlE y D (.slice aA0 nA0 cA0) ak0) (h1 : SlE y D (.slice aA1 nA1 cA1) ak1) (h2 : SlE y D (.slice aA2 nA2 cA2) ak2) (hd : D y.heap.size) (hn0 : an0 < 18446744073709551616) (hn1 : an1 < 18446744073709551616) (hn2 : an2 < 18446744073709551616) : SlE (y.alloc (.cells #[.int .i64 ao0, .int .u64 an0, .slice aA0 nA0 cA0, .int .i64 ao1, .int .u64 an1, .slice aA1 nA1 cA1, .int .i64 ao2, .int .u64 an2, .slice aA2 nA2 cA2] 30)) D (.slice (some ⟨y.heap.size, 0, none⟩) 3 3) (.cons ao0 an0 ak0 (.cons ao1 an1 ak1 (.cons ao2 an2 ak2 .nil))) := by
  have hk := kept_alloc9 y (.cells #[.int .i64 ao0, .int .u64 an0, .slice aA0 nA0 cA0, .int .i64 ao1, .int .u64 an1, .slice aA1 nA1 cA1, .int .i64 ao2, .int .u64 an2, .slice aA2 nA2 cA2] 30)
  exact ⟨_, 3, rfl, by simp [Ef.len], .inr ⟨y.heap.size, 0, rfl, hd, hn0, xc 0 _ rfl, xc 1 _ rfl, elS (h0.kept hk fun _ _ => id) (xc 2 _ rfl), hd, hn1, xc 3 _ rfl, xc 4 _ rfl, elS (h1.kept hk fun _ _ => id) (xc 5 _ rfl), hd, hn2, xc 6 _ rfl, xc 7 _ rfl, elS (h2.kept hk fun _ _ => id) (xc 8 _ rfl), trivial⟩⟩
theorem bex2 {y : World} {v0 : Value} {op0 : Int} {n0 : Nat} {k0 : Ef} {v1 : Value} {op1 : Int} {n1 : Nat} {k1 : Ef} (h0 : ExV y v0 op0 n0 k0) (h1 : ExV y v1 op1 n1 k1) : ∃ V y', (Instr.buildSlice 28 2 #[(0, v0), (1, v1)]).run Tryz.prog y = .ok V y' ∧ Kept (fun _ => False) y y' ∧ SlE y' (fun _ => True) V (.cons op0 n0 k0 (.cons op1 n1 k1 .nil)) := by
  obtain ⟨a0, m0, c0, rfl, g0, hn0⟩ := h0
  obtain ⟨a1, m1, c1, rfl, g1, hn1⟩ := h1
  exact ⟨_, _, buildX2 _ _ _ _ _ _ y, kept_alloc9 y _, ex2 (D := fun _ => True) g0 g1 trivial hn0 hn1⟩
theorem bex3 {y : World} {v0 : Value} {op0 : Int} {n0 : Nat} {k0 : Ef} {v1 : Value} {op1 : Int} {n1 : Nat} {k1 : Ef} {v2 : Value} {op2 : Int} {n2 : Nat} {k2 : Ef} (h0 : ExV y v0 op0 n0 k0) (h1 : ExV y v1 op1 n1 k1) (h2 : ExV y v2 op2 n2 k2) : ∃ V y', (Instr.buildSlice 28 3 #[(0, v0), (1, v1), (2, v2)]).run Tryz.prog y = .ok V y' ∧ Kept (fun _ => False) y y' ∧ SlE y' (fun _ => True) V (.cons op0 n0 k0 (.cons op1 n1 k1 (.cons op2 n2 k2 .nil))) := by
  obtain ⟨a0, m0, c0, rfl, g0, hn0⟩ := h0
  obtain ⟨a1, m1, c1, rfl, g1, hn1⟩ := h1
  obtain ⟨a2, m2, c2, rfl, g2, hn2⟩ := h2
  exact ⟨_, _, buildX3 _ _ _ _ _ _ _ _ _ y, kept_alloc9 y _, ex3 (D := fun _ => True) g0 g1 g2 trivial hn0 hn1 hn2⟩
theorem sx5 {y : World} {D : Nat → Prop} {kind0 n0 ao0 bo0 : Int} {an0 bn0 nA0 cA0 nB0 cB0 nC0 cC0 nD0 cD0 : Nat} {aA0 aB0 aC0 aD0 : Option Addr} {ak0 bk0 : Ef} {body0 els0 : Sf} {kind1 n1 ao1 bo1 : Int} {an1 bn1 nA1 cA1 nB1 cB1 nC1 cC1 nD1 cD1 : Nat} {aA1 aB1 aC1 aD1 : Option Addr} {ak1 bk1 : Ef} {body1 els1 : Sf} {kind2 n2 ao2 bo2 : Int} {an2 bn2 nA2 cA2 nB2 cB2 nC2 cC2 nD2 cD2 : Nat} {aA2 aB2 aC2 aD2 : Option Addr} {ak2 bk2 : Ef} {body2 els2 : Sf} {kind3 n3 ao3 bo3 : Int} {an3 bn3 nA3 cA3 nB3 cB3 nC3 cC3 nD3 cD3 : Nat} {aA3 aB3 aC3 aD3 : Option Addr} {ak3 bk3 : Ef} {body3 els3 : Sf} {kind4 n4 ao4 bo4 : Int} {an4 bn4 nA4 cA4 nB4 cB4 nC4 cC4 nD4 cD4 : Nat} {aA4 aB4 aC4 aD4 : Option Addr} {ak4 bk4 : Ef} {body4 els4 : Sf} (hd : D y.heap.size) (hA0 : SlE y D (.slice aA0 nA0 cA0) ak0) (hB0 : SlE y D (.slice aB0 nB0 cB0) bk0) (hC0 : SlS y D (.slice aC0 nC0 cC0) body0) (hD0 : SlS y D (.slice aD0 nD0 cD0) els0) (han0 : an0 < 18446744073709551616) (hbn0 : bn0 < 18446744073709551616) (hA1 : SlE y D (.slice aA1 nA1 cA1) ak1) (hB1 : SlE y D (.slice aB1 nB1 cB1) bk1) (hC1 : SlS y D (.slice aC1 nC1 cC1) body1) (hD1 : SlS y D (.slice aD1 nD1 cD1) els1) (han1 : an1 < 18446744073709551616) (hbn1 : bn1 < 18446744073709551616) (hA2 : SlE y D (.slice aA2 nA2 cA2) ak2) (hB2 : SlE y D (.slice aB2 nB2 cB2) bk2) (hC2 : SlS y D (.slice aC2 nC2 cC2) body2) (hD2 : SlS y D (.slice aD2 nD2 cD2) els2) (han2 : an2 < 18446744073709551616) (hbn2 : bn2 < 18446744073709551616) (hA3 : SlE y D (.slice aA3 nA3 cA3) ak3) (hB3 : SlE y D (.slice aB3 nB3 cB3) bk3) (hC3 : SlS y D (.slice aC3 nC3 cC3) body3) (hD3 : SlS y D (.slice aD3 nD3 cD3) els3) (han3 : an3 < 18446744073709551616) (hbn3 : bn3 < 18446744073709551616) (hA4 : SlE y D (.slice aA4 nA4 cA4) ak4) (hB4 : SlE y D (.slice aB4 nB4 cB4) bk4) (hC4 : SlS y D (.slice aC4 nC4 cC4) body4) (hD4 : SlS y D (.slice aD4 nD4 cD4) els4) (han4 : an4 < 18446744073709551616) (hbn4 : bn4 < 18446744073709551616) :
    SlS (y.alloc (.cells #[.int .i64 kind0, .int .i64 n0, .int .i64 ao0, .int .u64 an0, .slice aA0 nA0 cA0, .int .i64 bo0, .int .u64 bn0, .slice aB0 nB0 cB0, .slice aC0 nC0 cC0, .slice aD0 nD0 cD0, .int .i64 kind1, .int .i64 n1, .int .i64 ao1, .int .u64 an1, .slice aA1 nA1 cA1, .int .i64 bo1, .int .u64 bn1, .slice aB1 nB1 cB1, .slice aC1 nC1 cC1, .slice aD1 nD1 cD1, .int .i64 kind2, .int .i64 n2, .int .i64 ao2, .int .u64 an2, .slice aA2 nA2 cA2, .int .i64 bo2, .int .u64 bn2, .slice aB2 nB2 cB2, .slice aC2 nC2 cC2, .slice aD2 nD2 cD2, .int .i64 kind3, .int .i64 n3, .int .i64 ao3, .int .u64 an3, .slice aA3 nA3 cA3, .int .i64 bo3, .int .u64 bn3, .slice aB3 nB3 cB3, .slice aC3 nC3 cC3, .slice aD3 nD3 cD3, .int .i64 kind4, .int .i64 n4, .int .i64 ao4, .int .u64 an4, .slice aA4 nA4 cA4, .int .i64 bo4, .int .u64 bn4, .slice aB4 nB4 cB4, .slice aC4 nC4 cC4, .slice aD4 nD4 cD4] 35)) D (.slice (some ⟨y.heap.size, 0, none⟩) 5 5) (.cons kind0 n0 ao0 an0 ak0 bo0 bn0 bk0 body0 els0 (.cons kind1 n1 ao1 an1 ak1 bo1 bn1 bk1 body1 els1 (.cons kind2 n2 ao2 an2 ak2 bo2 bn2 bk2 body2 els2 (.cons kind3 n3 ao3 an3 ak3 bo3 bn3 bk3 body3 els3 (.cons kind4 n4 ao4 an4 ak4 bo4 bn4 bk4 body4 els4 .nil))))) := by
  have hk := kept_alloc9 y (.cells #[.int .i64 kind0, .int .i64 n0, .int .i64 ao0, .int .u64 an0, .slice aA0 nA0 cA0, .int .i64 bo0, .int .u64 bn0, .slice aB0 nB0 cB0, .slice aC0 nC0 cC0, .slice aD0 nD0 cD0, .int .i64 kind1, .int .i64 n1, .int .i64 ao1, .int .u64 an1, .slice aA1 nA1 cA1, .int .i64 bo1, .int .u64 bn1, .slice aB1 nB1 cB1, .slice aC1 nC1 cC1, .slice aD1 nD1 cD1, .int .i64 kind2, .int .i64 n2, .int .i64 ao2, .int .u64 an2, .slice aA2 nA2 cA2, .int .i64 bo2, .int .u64 bn2, .slice aB2 nB2 cB2, .slice aC2 nC2 cC2, .slice aD2 nD2 cD2, .int .i64 kind3, .int .i64 n3, .int .i64 ao3, .int .u64 an3, .slice aA3 nA3 cA3, .int .i64 bo3, .int .u64 bn3, .slice aB3 nB3 cB3, .slice aC3 nC3 cC3, .slice aD3 nD3 cD3, .int .i64 kind4, .int .i64 n4, .int .i64 ao4, .int .u64 an4, .slice aA4 nA4 cA4, .int .i64 bo4, .int .u64 bn4, .slice aB4 nB4 cB4, .slice aC4 nC4 cC4, .slice aD4 nD4 cD4] 35)
  exact ⟨_, 5, rfl, by simp [Sf.len], .inr ⟨y.heap.size, 0, rfl, ⟨hd, han0, hbn0, xc 0 _ rfl, xc 1 _ rfl, xc 2 _ rfl, xc 3 _ rfl, ⟨_, xc 4 _ rfl, hA0.kept hk fun _ _ => id⟩, xc 5 _ rfl, xc 6 _ rfl, ⟨_, xc 7 _ rfl, hB0.kept hk fun _ _ => id⟩, slSn (hC0.kept hk fun _ _ => id) (xc 8 _ rfl), slSn (hD0.kept hk fun _ _ => id) (xc 9 _ rfl), ⟨hd, han1, hbn1, xc 10 _ rfl, xc 11 _ rfl, xc 12 _ rfl, xc 13 _ rfl, ⟨_, xc 14 _ rfl, hA1.kept hk fun _ _ => id⟩, xc 15 _ rfl, xc 16 _ rfl, ⟨_, xc 17 _ rfl, hB1.kept hk fun _ _ => id⟩, slSn (hC1.kept hk fun _ _ => id) (xc 18 _ rfl), slSn (hD1.kept hk fun _ _ => id) (xc 19 _ rfl), ⟨hd, han2, hbn2, xc 20 _ rfl, xc 21 _ rfl, xc 22 _ rfl, xc 23 _ rfl, ⟨_, xc 24 _ rfl, hA2.kept hk fun _ _ => id⟩, xc 25 _ rfl, xc 26 _ rfl, ⟨_, xc 27 _ rfl, hB2.kept hk fun _ _ => id⟩, slSn (hC2.kept hk fun _ _ => id) (xc 28 _ rfl), slSn (hD2.kept hk fun _ _ => id) (xc 29 _ rfl), ⟨hd, han3, hbn3, xc 30 _ rfl, xc 31 _ rfl, xc 32 _ rfl, xc 33 _ rfl, ⟨_, xc 34 _ rfl, hA3.kept hk fun _ _ => id⟩, xc 35 _ rfl, xc 36 _ rfl, ⟨_, xc 37 _ rfl, hB3.kept hk fun _ _ => id⟩, slSn (hC3.kept hk fun _ _ => id) (xc 38 _ rfl), slSn (hD3.kept hk fun _ _ => id) (xc 39 _ rfl), ⟨hd, han4, hbn4, xc 40 _ rfl, xc 41 _ rfl, xc 42 _ rfl, xc 43 _ rfl, ⟨_, xc 44 _ rfl, hA4.kept hk fun _ _ => id⟩, xc 45 _ rfl, xc 46 _ rfl, ⟨_, xc 47 _ rfl, hB4.kept hk fun _ _ => id⟩, slSn (hC4.kept hk fun _ _ => id) (xc 48 _ rfl), slSn (hD4.kept hk fun _ _ => id) (xc 49 _ rfl), trivial⟩⟩⟩⟩⟩⟩⟩
theorem buildS5 (l0_0 l0_1 l0_2 l0_3 l0_4 l0_5 l0_6 l0_7 l0_8 l0_9 l1_0 l1_1 l1_2 l1_3 l1_4 l1_5 l1_6 l1_7 l1_8 l1_9 l2_0 l2_1 l2_2 l2_3 l2_4 l2_5 l2_6 l2_7 l2_8 l2_9 l3_0 l3_1 l3_2 l3_3 l3_4 l3_5 l3_6 l3_7 l3_8 l3_9 l4_0 l4_1 l4_2 l4_3 l4_4 l4_5 l4_6 l4_7 l4_8 l4_9 : Value) (w : World) : (Instr.buildSlice 33 5 #[(0, .agg #[l0_0, l0_1, l0_2, l0_3, l0_4, l0_5, l0_6, l0_7, l0_8, l0_9]), (1, .agg #[l1_0, l1_1, l1_2, l1_3, l1_4, l1_5, l1_6, l1_7, l1_8, l1_9]), (2, .agg #[l2_0, l2_1, l2_2, l2_3, l2_4, l2_5, l2_6, l2_7, l2_8, l2_9]), (3, .agg #[l3_0, l3_1, l3_2, l3_3, l3_4, l3_5, l3_6, l3_7, l3_8, l3_9]), (4, .agg #[l4_0, l4_1, l4_2, l4_3, l4_4, l4_5, l4_6, l4_7, l4_8, l4_9])]).run Tryz.prog w = .ok (.slice (some ⟨w.heap.size, 0, none⟩) 5 5) (w.alloc (.cells #[l0_0, l0_1, l0_2, l0_3, l0_4, l0_5, l0_6, l0_7, l0_8, l0_9, l1_0, l1_1, l1_2, l1_3, l1_4, l1_5, l1_6, l1_7, l1_8, l1_9, l2_0, l2_1, l2_2, l2_3, l2_4, l2_5, l2_6, l2_7, l2_8, l2_9, l3_0, l3_1, l3_2, l3_3, l3_4, l3_5, l3_6, l3_7, l3_8, l3_9, l4_0, l4_1, l4_2, l4_3, l4_4, l4_5, l4_6, l4_7, l4_8, l4_9] 35)) := by kernel_rfl
theorem bst5 {y : World} {v0 : Value} {x0 : Sf} {v1 : Value} {x1 : Sf} {v2 : Value} {x2 : Sf} {v3 : Value} {x3 : Sf} {v4 : Value} {x4 : Sf} (h0 : StV y v0 x0) (h1 : StV y v1 x1) (h2 : StV y v2 x2) (h3 : StV y v3 x3) (h4 : StV y v4 x4) : ∃ V y', (Instr.buildSlice 33 5 #[(0, v0), (1, v1), (2, v2), (3, v3), (4, v4)]).run Tryz.prog y = .ok V y' ∧ Kept (fun _ => False) y y' ∧ SlS y' (fun _ => True) V (x0.wth (x1.wth (x2.wth (x3.wth (x4.wth .nil))))) := by
  obtain ⟨kind0, n0, ao0, an0, ak0, bo0, bn0, bk0, body0, els0, r0, rfl, aA0, nA0, cA0, aB0, nB0, cB0, aC0, nC0, cC0, aD0, nD0, cD0, rfl, p0, q0, s0, t0, u0, z0⟩ := h0.of
  obtain ⟨kind1, n1, ao1, an1, ak1, bo1, bn1, bk1, body1, els1, r1, rfl, aA1, nA1, cA1, aB1, nB1, cB1, aC1, nC1, cC1, aD1, nD1, cD1, rfl, p1, q1, s1, t1, u1, z1⟩ := h1.of
  obtain ⟨kind2, n2, ao2, an2, ak2, bo2, bn2, bk2, body2, els2, r2, rfl, aA2, nA2, cA2, aB2, nB2, cB2, aC2, nC2, cC2, aD2, nD2, cD2, rfl, p2, q2, s2, t2, u2, z2⟩ := h2.of
  obtain ⟨kind3, n3, ao3, an3, ak3, bo3, bn3, bk3, body3, els3, r3, rfl, aA3, nA3, cA3, aB3, nB3, cB3, aC3, nC3, cC3, aD3, nD3, cD3, rfl, p3, q3, s3, t3, u3, z3⟩ := h3.of
  obtain ⟨kind4, n4, ao4, an4, ak4, bo4, bn4, bk4, body4, els4, r4, rfl, aA4, nA4, cA4, aB4, nB4, cB4, aC4, nC4, cC4, aD4, nD4, cD4, rfl, p4, q4, s4, t4, u4, z4⟩ := h4.of
  exact ⟨_, _, buildS5 _ _ _ _ _ _ _ _ _ _ _ _ _ _ _ _ _ _ _ _ _ _ _ _ _ _ _ _ _ _ _ _ _ _ _ _ _ _ _ _ _ _ _ _ _ _ _ _ _ _ y, kept_alloc9 y _, sx5 (D := fun _ => True) trivial p0 q0 s0 t0 u0 z0 p1 q1 s1 t1 u1 z1 p2 q2 s2 t2 u2 z2 p3 q3 s3 t3 u3 z3 p4 q4 s4 t4 u4 z4⟩
theorem bltNA (k n : Int) (a0 a1 a2 : Value) : Tryz.prog.built 35 [(0, .int .i64 k), (1, .int .i64 n), (2, .agg #[a0, a1, a2])] = some #[.int .i64 k, .int .i64 n, a0, a1, a2, .int .i64 0, .int .u64 0, .slice none 0 0, .slice none 0 0, .slice none 0 0] := by kernel_rfl
theorem bltX3 (k : Int) (n : Nat) (a : Option Addr) (m c : Nat) : Tryz.prog.built 30 [(0, .int .i64 k), (1, .int .u64 n), (2, .slice a m c)] = some #[.int .i64 k, .int .u64 n, .slice a m c] := by kernel_rfl
theorem bltFL (l : Int) (a : Option Addr) (n c : Nat) : Tryz.prog.built 37 [(1, .int .i64 l), (2, .slice a n c)] = some #[.int .i64 0, .int .i64 l, .slice a n c] := by kernel_rfl
theorem runLoc (v : Value) (w : World) : (callFunc 7 #[v]).run Tryz.prog w = .ok (.enter 7 #[v]) w := by kernel_rfl
theorem runOp (v v2 : Value) (w : World) : (callFunc 8 #[v, v2]).run Tryz.prog w = .ok (.enter 8 #[v, v2]) w := by kernel_rfl
theorem runEval (v v2 : Value) (w : World) : (callFunc 10 #[v, v2]).run Tryz.prog w = .ok (.enter 10 #[v, v2]) w := by kernel_rfl
end Ir
end Go.Proofs.YtcgpdijpppcbiaaGreatDoor
namespace Go.Proofs.YtcgpdijpppcbiaaGreatDoor
open Go.RowKit
set_option linter.unusedVariables false
set_option linter.unusedSimpArgs false
namespace Ir
open Kc
theorem ap_1 (v : Nat) (h : v < 18446744073709551616) : ap 1 0 v 0 = v := by
  unfold ap
  rw [W1.apx_eq1]
  unfold U.add
  omega
theorem ap_24 (v : Nat) : ap 24 v v 0 = 0 := by
  unfold ap
  rw [W1.apx_eq24]
  unfold U.xor
  rw [Nat.xor_self]
  rfl
theorem ap_lt (k a b c : Nat) (h1 : 1 ≤ k) (h25 : k ≤ 25) (ha : a < 18446744073709551616) (hb : b < 18446744073709551616) (hc : c < 18446744073709551616) : ap k a b c < 18446744073709551616 := (ap_ok k a b c h1 h25 ha hb hc).1
/-- How many arguments an operation of words has. -/
def arN (k : Nat) : Nat := if k = 8 ∨ k = 9 then 3 else if k = 21 ∨ k = 25 then 1 else 2
theorem arN_in (k : Nat) : arN k = 1 ∨ arN k = 2 ∨ arN k = 3 := by unfold arN; split <;> (try split) <;> simp
theorem k_in {k : Nat} (h1 : 1 ≤ k) (h25 : k ≤ 25) : k = 1 ∨ k = 2 ∨ k = 3 ∨ k = 4 ∨ k = 5 ∨ k = 6 ∨ k = 7 ∨ k = 8 ∨ k = 9 ∨ k = 10 ∨ k = 11 ∨ k = 12 ∨ k = 13 ∨ k = 14 ∨ k = 15 ∨ k = 16 ∨ k = 17 ∨ k = 18 ∨ k = 19 ∨ k = 20 ∨ k = 21 ∨ k = 22 ∨ k = 23 ∨ k = 24 ∨ k = 25 := by omega
theorem mask_1 (a b c : Nat) : ap 1 a (if 2 ≤ arN 1 then b else 0) (if 3 ≤ arN 1 then c else 0) = ap 1 a b c := by
  rw [show arN 1 = 2 from rfl, if_pos (by decide), if_neg (by decide)]
  unfold ap
  rw [W1.apx_eq1, W1.apx_eq1]
theorem mask_2 (a b c : Nat) : ap 2 a (if 2 ≤ arN 2 then b else 0) (if 3 ≤ arN 2 then c else 0) = ap 2 a b c := by
  rw [show arN 2 = 2 from rfl, if_pos (by decide), if_neg (by decide)]
  unfold ap
  rw [W1.apx_eq2, W1.apx_eq2]
theorem mask_3 (a b c : Nat) : ap 3 a (if 2 ≤ arN 3 then b else 0) (if 3 ≤ arN 3 then c else 0) = ap 3 a b c := by
  rw [show arN 3 = 2 from rfl, if_pos (by decide), if_neg (by decide)]
  unfold ap
  rw [W1.apx_eq3, W1.apx_eq3]
theorem mask_4 (a b c : Nat) : ap 4 a (if 2 ≤ arN 4 then b else 0) (if 3 ≤ arN 4 then c else 0) = ap 4 a b c := by
  rw [show arN 4 = 2 from rfl, if_pos (by decide), if_neg (by decide)]
  unfold ap
  rw [W1.apx_eq4, W1.apx_eq4]
theorem mask_5 (a b c : Nat) : ap 5 a (if 2 ≤ arN 5 then b else 0) (if 3 ≤ arN 5 then c else 0) = ap 5 a b c := by
  rw [show arN 5 = 2 from rfl, if_pos (by decide), if_neg (by decide)]
  unfold ap
  rw [W1.apx_eq5, W1.apx_eq5]
theorem mask_6 (a b c : Nat) : ap 6 a (if 2 ≤ arN 6 then b else 0) (if 3 ≤ arN 6 then c else 0) = ap 6 a b c := by
  rw [show arN 6 = 2 from rfl, if_pos (by decide), if_neg (by decide)]
  unfold ap
  rw [W1.apx_eq6, W1.apx_eq6]
theorem mask_7 (a b c : Nat) : ap 7 a (if 2 ≤ arN 7 then b else 0) (if 3 ≤ arN 7 then c else 0) = ap 7 a b c := by
  rw [show arN 7 = 2 from rfl, if_pos (by decide), if_neg (by decide)]
  unfold ap
  rw [W1.apx_eq7, W1.apx_eq7]
theorem mask_8 (a b c : Nat) : ap 8 a (if 2 ≤ arN 8 then b else 0) (if 3 ≤ arN 8 then c else 0) = ap 8 a b c := by
  rw [show arN 8 = 3 from rfl, if_pos (by decide), if_pos (by decide)]
theorem mask_9 (a b c : Nat) : ap 9 a (if 2 ≤ arN 9 then b else 0) (if 3 ≤ arN 9 then c else 0) = ap 9 a b c := by
  rw [show arN 9 = 3 from rfl, if_pos (by decide), if_pos (by decide)]
theorem mask_10 (a b c : Nat) : ap 10 a (if 2 ≤ arN 10 then b else 0) (if 3 ≤ arN 10 then c else 0) = ap 10 a b c := by
  rw [show arN 10 = 2 from rfl, if_pos (by decide), if_neg (by decide)]
  unfold ap
  rw [W1.apx_eq10, W1.apx_eq10]
theorem mask_11 (a b c : Nat) : ap 11 a (if 2 ≤ arN 11 then b else 0) (if 3 ≤ arN 11 then c else 0) = ap 11 a b c := by
  rw [show arN 11 = 2 from rfl, if_pos (by decide), if_neg (by decide)]
  unfold ap
  rw [W1.apx_eq11, W1.apx_eq11]
theorem mask_12 (a b c : Nat) : ap 12 a (if 2 ≤ arN 12 then b else 0) (if 3 ≤ arN 12 then c else 0) = ap 12 a b c := by
  rw [show arN 12 = 2 from rfl, if_pos (by decide), if_neg (by decide)]
  unfold ap
  rw [W1.apx_eq12, W1.apx_eq12]
theorem mask_13 (a b c : Nat) : ap 13 a (if 2 ≤ arN 13 then b else 0) (if 3 ≤ arN 13 then c else 0) = ap 13 a b c := by
  rw [show arN 13 = 2 from rfl, if_pos (by decide), if_neg (by decide)]
  unfold ap
  rw [W1.apx_eq13, W1.apx_eq13]
theorem mask_14 (a b c : Nat) : ap 14 a (if 2 ≤ arN 14 then b else 0) (if 3 ≤ arN 14 then c else 0) = ap 14 a b c := by
  rw [show arN 14 = 2 from rfl, if_pos (by decide), if_neg (by decide)]
  unfold ap
  rw [W1.apx_eq14, W1.apx_eq14]
theorem mask_15 (a b c : Nat) : ap 15 a (if 2 ≤ arN 15 then b else 0) (if 3 ≤ arN 15 then c else 0) = ap 15 a b c := by
  rw [show arN 15 = 2 from rfl, if_pos (by decide), if_neg (by decide)]
  unfold ap
  rw [W1.apx_eq15, W1.apx_eq15]
theorem mask_16 (a b c : Nat) : ap 16 a (if 2 ≤ arN 16 then b else 0) (if 3 ≤ arN 16 then c else 0) = ap 16 a b c := by
  rw [show arN 16 = 2 from rfl, if_pos (by decide), if_neg (by decide)]
  unfold ap
  rw [W1.apx_eq16, W1.apx_eq16]
theorem mask_17 (a b c : Nat) : ap 17 a (if 2 ≤ arN 17 then b else 0) (if 3 ≤ arN 17 then c else 0) = ap 17 a b c := by
  rw [show arN 17 = 2 from rfl, if_pos (by decide), if_neg (by decide)]
  unfold ap
  rw [W1.apx_eq17, W1.apx_eq17]
theorem mask_18 (a b c : Nat) : ap 18 a (if 2 ≤ arN 18 then b else 0) (if 3 ≤ arN 18 then c else 0) = ap 18 a b c := by
  rw [show arN 18 = 2 from rfl, if_pos (by decide), if_neg (by decide)]
  unfold ap
  rw [W1.apx_eq18, W1.apx_eq18]
theorem mask_19 (a b c : Nat) : ap 19 a (if 2 ≤ arN 19 then b else 0) (if 3 ≤ arN 19 then c else 0) = ap 19 a b c := by
  rw [show arN 19 = 2 from rfl, if_pos (by decide), if_neg (by decide)]
  unfold ap
  rw [W1.apx_eq19, W1.apx_eq19]
theorem mask_20 (a b c : Nat) : ap 20 a (if 2 ≤ arN 20 then b else 0) (if 3 ≤ arN 20 then c else 0) = ap 20 a b c := by
  rw [show arN 20 = 2 from rfl, if_pos (by decide), if_neg (by decide)]
  unfold ap
  rw [W1.apx_eq20, W1.apx_eq20]
theorem mask_21 (a b c : Nat) : ap 21 a (if 2 ≤ arN 21 then b else 0) (if 3 ≤ arN 21 then c else 0) = ap 21 a b c := by
  rw [show arN 21 = 1 from rfl, if_neg (by decide), if_neg (by decide)]
  unfold ap
  rw [W1.apx_eq21, W1.apx_eq21]
theorem mask_22 (a b c : Nat) : ap 22 a (if 2 ≤ arN 22 then b else 0) (if 3 ≤ arN 22 then c else 0) = ap 22 a b c := by
  rw [show arN 22 = 2 from rfl, if_pos (by decide), if_neg (by decide)]
  unfold ap
  rw [W1.apx_eq22, W1.apx_eq22]
theorem mask_23 (a b c : Nat) : ap 23 a (if 2 ≤ arN 23 then b else 0) (if 3 ≤ arN 23 then c else 0) = ap 23 a b c := by
  rw [show arN 23 = 2 from rfl, if_pos (by decide), if_neg (by decide)]
  unfold ap
  rw [W1.apx_eq23, W1.apx_eq23]
theorem mask_24 (a b c : Nat) : ap 24 a (if 2 ≤ arN 24 then b else 0) (if 3 ≤ arN 24 then c else 0) = ap 24 a b c := by
  rw [show arN 24 = 2 from rfl, if_pos (by decide), if_neg (by decide)]
  unfold ap
  rw [W1.apx_eq24, W1.apx_eq24]
theorem mask_25 (a b c : Nat) : ap 25 a (if 2 ≤ arN 25 then b else 0) (if 3 ≤ arN 25 then c else 0) = ap 25 a b c := by
  rw [show arN 25 = 1 from rfl, if_neg (by decide), if_neg (by decide)]
  unfold ap
  rw [W1.apx_eq25, W1.apx_eq25]
/-- What an operation does not take does not matter. -/
theorem ap_mask (k a b c : Nat) (h1 : 1 ≤ k) (h25 : k ≤ 25) : ap k a (if 2 ≤ arN k then b else 0) (if 3 ≤ arN k then c else 0) = ap k a b c := by
  rcases k_in h1 h25 with rfl | rfl | rfl | rfl | rfl | rfl | rfl | rfl | rfl | rfl | rfl | rfl | rfl | rfl | rfl | rfl | rfl | rfl | rfl | rfl | rfl | rfl | rfl | rfl | rfl
  · exact mask_1 a b c
  · exact mask_2 a b c
  · exact mask_3 a b c
  · exact mask_4 a b c
  · exact mask_5 a b c
  · exact mask_6 a b c
  · exact mask_7 a b c
  · exact mask_8 a b c
  · exact mask_9 a b c
  · exact mask_10 a b c
  · exact mask_11 a b c
  · exact mask_12 a b c
  · exact mask_13 a b c
  · exact mask_14 a b c
  · exact mask_15 a b c
  · exact mask_16 a b c
  · exact mask_17 a b c
  · exact mask_18 a b c
  · exact mask_19 a b c
  · exact mask_20 a b c
  · exact mask_21 a b c
  · exact mask_22 a b c
  · exact mask_23 a b c
  · exact mask_24 a b c
  · exact mask_25 a b c
def ar1 : Ef := .cons 27 0 .nil .nil
def ar2 : Ef := .cons 27 0 .nil (.cons 27 1 .nil .nil)
def ar3 : Ef := .cons 27 0 .nil (.cons 27 1 .nil (.cons 27 2 .nil .nil))
def ars (n : Nat) : Ef := if n = 1 then ar1 else if n = 2 then ar2 else ar3
def fK (k : Nat) : Fn := ⟨3, 5, .cons 1 4 1 0 (.cons 27 4 .nil (.cons k 0 (ars (arN k)) .nil)) 0 0 .nil .nil .nil (.cons 1 0 26 77 .nil 0 0 .nil .nil .nil (.cons 5 0 27 4 .nil 0 0 .nil .nil .nil .nil))⟩
def callX (b : Nat) : Ef := .cons 27 0 .nil (.cons 26 b .nil (.cons 27 1 .nil .nil))
def mainB (a b c : Nat) : Sf := .cons 1 0 26 a .nil 0 0 .nil .nil .nil (.cons 1 1 26 c .nil 0 0 .nil .nil .nil (.cons 1 2 29 1 (callX b) 0 0 .nil .nil .nil (.cons 2 0 26 5 .nil 27 0 .nil .nil .nil (.cons 5 0 24 0 (.cons 27 2 .nil (.cons 29 1 (callX b) .nil)) 0 0 .nil .nil .nil .nil))))
def p7 (k a b c : Nat) : List Fn := [⟨0, 3, mainB a b c⟩, fK k]
def p8 (k a b c : Nat) : List Fn := [⟨0, 0, .cons 5 0 29 1 (.cons 26 a .nil (.cons 26 b .nil (.cons 26 c .nil .nil))) 0 0 .nil .nil .nil .nil⟩, fK k]
theorem right7 (k a b c : Nat) (h1 : 1 ≤ k) (h25 : k ≤ 25) : right (p7 k a b c) = true := by
  rcases k_in h1 h25 with rfl | rfl | rfl | rfl | rfl | rfl | rfl | rfl | rfl | rfl | rfl | rfl | rfl | rfl | rfl | rfl | rfl | rfl | rfl | rfl | rfl | rfl | rfl | rfl | rfl <;> rfl
theorem right8 (k a b c : Nat) (h1 : 1 ≤ k) (h25 : k ≤ 25) : right (p8 k a b c) = true := by
  rcases k_in h1 h25 with rfl | rfl | rfl | rfl | rfl | rfl | rfl | rfl | rfl | rfl | rfl | rfl | rfl | rfl | rfl | rfl | rfl | rfl | rfl | rfl | rfl | rfl | rfl | rfl | rfl <;> rfl
def Rs.more (s : Rs) (k : Nat) : Rs := { s with used := s.used + k }
theorem val_const (p : List Fn) (G d n : Nat) (L : Nat → Nat) (s : Rs) (h : s.used < s.fuel) : (sem p ap G (d + 1)).val 26 n .nil L s = some (n, true, s.up) := by
  show stepVal p ap (sem p ap G d) 26 n .nil L s = _
  unfold stepVal
  rw [if_pos h]
  rfl
theorem val_loc (p : List Fn) (G d n : Nat) (hn : n < 24) (L : Nat → Nat) (s : Rs) (h : s.used < s.fuel) : (sem p ap G (d + 1)).val 27 n .nil L s = some (L n, true, s.up) := by
  show stepVal p ap (sem p ap G d) 27 n .nil L s = _
  unfold stepVal
  rw [if_pos h]
  show stepOp p ap (sem p ap G d) 27 n 0 _ L s.up = _
  unfold stepOp
  rw [if_neg (by decide), if_pos rfl, if_pos hn]
theorem op_k (p : List Fn) (r : Sem) (k m : Nat) (h1 : 1 ≤ k) (h25 : k ≤ 25) (A L : Nat → Nat) (s : Rs) : stepOp p ap r k 0 m A L s = some (ap k (A 0) (A 1) (A 2), true, s) := by
  unfold stepOp
  rw [if_neg (by omega), if_neg (by omega), if_neg (by omega), if_neg (by omega), if_pos (by omega)]
  rfl
/-- An operation over a function's arguments. -/
theorem val_k (p : List Fn) (G d k n : Nat) (h1 : 1 ≤ k) (h25 : k ≤ 25) (hn : n = 1 ∨ n = 2 ∨ n = 3) (L : Nat → Nat) (s : Rs) (h : s.used + n < s.fuel) : (sem p ap G (d + 2)).val k 0 (ars n) L s = some (ap k (L 0) (if 2 ≤ n then L 1 else 0) (if 3 ≤ n then L 2 else 0), true, s.more (1 + n)) := by
  show stepVal p ap (sem p ap G (d + 1)) k 0 (ars n) L s = _
  unfold stepVal
  rw [if_pos (by omega)]
  rcases hn with rfl | rfl | rfl
  · have e : evArgs (sem p ap G (d + 1)).val (ars 1) 0 (fun _ => 0) L s.up = some (upd (fun _ => 0) 0 (L 0), true, s.more 2) := by
      show evArgs (sem p ap G (d + 1)).val (.cons 27 0 .nil .nil) 0 (fun _ => 0) L s.up = _
      unfold evArgs
      rw [if_pos (by decide), val_loc p G d 0 (by decide) L s.up (by show s.used + 1 < s.fuel; omega)]
      rfl
    rw [e]
    dsimp only
    rw [op_k p _ k _ h1 h25]
    rfl
  · have e : evArgs (sem p ap G (d + 1)).val (ars 2) 0 (fun _ => 0) L s.up = some (upd (upd (fun _ => 0) 0 (L 0)) 1 (L 1), true, s.more 3) := by
      show evArgs (sem p ap G (d + 1)).val (.cons 27 0 .nil (.cons 27 1 .nil .nil)) 0 (fun _ => 0) L s.up = _
      unfold evArgs
      rw [if_pos (by decide), val_loc p G d 0 (by decide) L s.up (by show s.used + 1 < s.fuel; omega)]
      dsimp only
      unfold evArgs
      rw [if_pos (by decide), val_loc p G d 1 (by decide) L s.up.up (by show s.used + 1 + 1 < s.fuel; omega)]
      rfl
    rw [e]
    dsimp only
    rw [op_k p _ k _ h1 h25]
    rfl
  · have e : evArgs (sem p ap G (d + 1)).val (ars 3) 0 (fun _ => 0) L s.up = some (upd (upd (upd (fun _ => 0) 0 (L 0)) 1 (L 1)) 2 (L 2), true, s.more 4) := by
      show evArgs (sem p ap G (d + 1)).val (.cons 27 0 .nil (.cons 27 1 .nil (.cons 27 2 .nil .nil))) 0 (fun _ => 0) L s.up = _
      unfold evArgs
      rw [if_pos (by decide), val_loc p G d 0 (by decide) L s.up (by show s.used + 1 < s.fuel; omega)]
      dsimp only
      unfold evArgs
      rw [if_pos (by decide), val_loc p G d 1 (by decide) L s.up.up (by show s.used + 1 + 1 < s.fuel; omega)]
      dsimp only
      unfold evArgs
      rw [if_pos (by decide), val_loc p G d 2 (by decide) L s.up.up.up (by show s.used + 1 + 1 + 1 < s.fuel; omega)]
      rfl
    rw [e]
    dsimp only
    rw [op_k p _ k _ h1 h25]
    rfl
/-- The function that both programs call. -/
theorem call_f (p : List Fn) (G d k : Nat) (hp : p[1]? = some (fK k)) (h1 : 1 ≤ k) (h25 : k ≤ 25) (A : Nat → Nat) (hA : ∀ i, A i < 18446744073709551616) (s : Rs) (h : s.used + 12 ≤ s.fuel) : stepCall p (sem p ap G (d + 5)) 1 3 A s = some (ap k (A 0) (A 1) (A 2), true, s.more (8 + arN k)) := by
  have hn := arN_in k
  have hm := ap_mask k (A 0) (A 1) (A 2) h1 h25
  have hv := ap_lt k (A 0) (A 1) (A 2) h1 h25 (hA 0) (hA 1) (hA 2)
  generalize hnn : arN k = n at *
  have hn3 : n ≤ 3 := by omega
  generalize hL : (fun i => if i < 3 then A i else 0 : Nat → Nat) = L
  have l0 : L 0 = A 0 := by rw [← hL]; rfl
  have l1 : L 1 = A 1 := by rw [← hL]; rfl
  have l2 : L 2 = A 2 := by rw [← hL]; rfl
  have l4 : L 4 = 0 := by rw [← hL]; rfl
  have e1 : (sem p ap G (d + 4)).val 1 0 (.cons 27 4 .nil (.cons k 0 (ars n) .nil)) L s.up = some (ap k (A 0) (A 1) (A 2), true, s.more (4 + n)) := by
    show stepVal p ap (sem p ap G (d + 3)) 1 0 _ L s.up = _
    unfold stepVal
    rw [if_pos (by show s.used + 1 < s.fuel; omega)]
    have e : evArgs (sem p ap G (d + 3)).val (.cons 27 4 .nil (.cons k 0 (ars n) .nil)) 0 (fun _ => 0) L s.up.up = some (upd (upd (fun _ => 0) 0 (L 4)) 1 (ap k (A 0) (A 1) (A 2)), true, s.more (4 + n)) := by
      unfold evArgs
      rw [if_pos (by decide), val_loc p G (d + 2) 4 (by decide) L s.up.up (by show s.used + 1 + 1 < s.fuel; omega)]
      dsimp only
      unfold evArgs
      rw [if_pos (by decide), val_k p G (d + 1) k n h1 h25 hn L s.up.up.up (by show s.used + 1 + 1 + 1 + n < s.fuel; omega), l0, l1, l2, hm]
      dsimp only
      have : s.up.up.up.more (1 + n) = s.more (4 + n) := by unfold Rs.more Rs.up; simp; omega
      rw [this]
      rfl
    rw [e]
    dsimp only
    have := op_k p (sem p ap G (d + 3)) 1 2 (by decide) (by decide) (upd (upd (fun _ => 0) 0 (L 4)) 1 (ap k (A 0) (A 1) (A 2))) L (s.more (4 + n))
    show stepOp p ap (sem p ap G (d + 3)) (1 : Nat) 0 2 _ L (s.more (4 + n)) = _
    rw [this]
    show some (ap 1 (L 4) (ap k (A 0) (A 1) (A 2)) 0, true, s.more (4 + n)) = _
    rw [l4, ap_1 _ hv]
  unfold stepCall
  rw [hp]
  dsimp only
  have eb : (sem p ap G (d + 5)).lst (fK k).body L 0 s = some (1, upd (upd L 4 (ap k (A 0) (A 1) (A 2))) 0 77, ap k (A 0) (A 1) (A 2), s.more (8 + n)) := by
    show evL (sem p ap G (d + 4)) G (.cons 1 4 1 0 (.cons 27 4 .nil (.cons k 0 (ars (arN k)) .nil)) 0 0 .nil .nil .nil (.cons 1 0 26 77 .nil 0 0 .nil .nil .nil (.cons 5 0 27 4 .nil 0 0 .nil .nil .nil .nil))) L 0 s = _
    rw [hnn]
    unfold evL stepSt
    rw [if_neg (by decide), if_pos (by omega), e1]
    dsimp only
    unfold stepKind
    rw [if_pos rfl, if_pos (by decide)]
    dsimp only
    rw [if_pos rfl]
    unfold evL stepSt
    rw [if_neg (by decide), if_pos (by show s.used + (4 + n) < s.fuel; omega), val_const p G (d + 3) 77 _ _ (by show s.used + (4 + n) + 1 < s.fuel; omega)]
    dsimp only
    unfold stepKind
    rw [if_pos rfl, if_pos (by decide)]
    dsimp only
    rw [if_pos rfl]
    unfold evL stepSt
    rw [if_neg (by decide), if_pos (by show s.used + (4 + n) + 1 + 1 < s.fuel; omega), val_loc p G (d + 3) 4 (by decide) _ _ (by show s.used + (4 + n) + 1 + 1 + 1 < s.fuel; omega)]
    have : (s.more (4 + n)).up.up.up.up = s.more (8 + n) := by unfold Rs.more Rs.up; simp; omega
    rw [this]
    rfl
  rw [hL, eb]
  rfl
def A3 (a b c : Nat) : Nat → Nat := upd (upd (upd (fun _ => 0) 0 a) 1 b) 2 c
theorem A3_lt {a b c : Nat} (ha : a < 18446744073709551616) (hb : b < 18446744073709551616) (hc : c < 18446744073709551616) (i : Nat) : A3 a b c i < 18446744073709551616 := by
  unfold A3 upd
  split
  · exact hc
  split
  · exact hb
  split
  · exact ha
  · exact (by decide : 0 < 18446744073709551616)
/-- The call, with what the caller has. -/
theorem val_call (p : List Fn) (G d k : Nat) (hp : p[1]? = some (fK k)) (h1 : 1 ≤ k) (h25 : k ≤ 25) (a b c : Nat) (ha : a < 18446744073709551616) (hb : b < 18446744073709551616) (hc : c < 18446744073709551616) (L : Nat → Nat) (l0 : L 0 = a) (l1 : L 1 = c) (s : Rs) (h : s.used + 20 ≤ s.fuel) : (sem p ap G (d + 6)).val 29 1 (callX b) L s = some (ap k a b c, true, s.more (12 + arN k)) := by
  have hn := arN_in k
  show stepVal p ap (sem p ap G (d + 5)) 29 1 (.cons 27 0 .nil (.cons 26 b .nil (.cons 27 1 .nil .nil))) L s = _
  unfold stepVal
  rw [if_pos (by omega)]
  have e : evArgs (sem p ap G (d + 5)).val (.cons 27 0 .nil (.cons 26 b .nil (.cons 27 1 .nil .nil))) 0 (fun _ => 0) L s.up = some (A3 a b c, true, s.more 4) := by
    unfold evArgs
    rw [if_pos (by decide), val_loc p G (d + 4) 0 (by decide) L s.up (by show s.used + 1 < s.fuel; omega), l0]
    dsimp only
    unfold evArgs
    rw [if_pos (by decide), val_const p G (d + 4) b L s.up.up (by show s.used + 1 + 1 < s.fuel; omega)]
    dsimp only
    unfold evArgs
    rw [if_pos (by decide), val_loc p G (d + 4) 1 (by decide) L s.up.up.up (by show s.used + 1 + 1 + 1 < s.fuel; omega), l1]
    rfl
  rw [e]
  dsimp only
  show stepCall p (sem p ap G (d + 5)) 1 3 (A3 a b c) (s.more 4) = _
  rw [call_f p G d k hp h1 h25 (A3 a b c) (A3_lt ha hb hc) (s.more 4) (by show s.used + 4 + 12 ≤ s.fuel; omega)]
  have : (s.more 4).more (8 + arN k) = s.more (12 + arN k) := by unfold Rs.more; simp; omega
  rw [this]
  rfl
theorem run8 (k a b c : Nat) (h1 : 1 ≤ k) (h25 : k ≤ 25) (ha : a < 18446744073709551616) (hb : b < 18446744073709551616) (hc : c < 18446744073709551616) : stepCall (p8 k a b c) (sem (p8 k a b c) ap 3 9) 0 0 (fun _ => 0) (s0 100000) = some (ap k a b c, true, (s0 100000).more (13 + arN k)) := by
  have hf := call_f (p8 k a b c) 3 1 k rfl h1 h25 (A3 a b c) (A3_lt ha hb hc) ((s0 100000).more 5) (by show 0 + 5 + 12 ≤ 100000; omega)
  have hv : (sem (p8 k a b c) ap 3 8).val 29 1 (.cons 26 a .nil (.cons 26 b .nil (.cons 26 c .nil .nil))) (fun i => if i < 0 then 0 else 0) ((s0 100000).more 1) = some (ap k a b c, true, (s0 100000).more (13 + arN k)) := by
    have h : (sem (p8 k a b c) ap 3 8).val 29 1 (.cons 26 a .nil (.cons 26 b .nil (.cons 26 c .nil .nil))) (fun i => if i < 0 then 0 else 0) ((s0 100000).more 1) = stepCall (p8 k a b c) (sem (p8 k a b c) ap 3 7) 1 3 (A3 a b c) ((s0 100000).more 5) := rfl
    rw [h, call_f (p8 k a b c) 3 2 k rfl h1 h25 (A3 a b c) (A3_lt ha hb hc) ((s0 100000).more 5) (by show 0 + 5 + 12 ≤ 100000; omega)]
    have : ((s0 100000).more 5).more (8 + arN k) = (s0 100000).more (13 + arN k) := by unfold Rs.more; simp; omega
    rw [this]
    rfl
  have hl : (sem (p8 k a b c) ap 3 9).lst (.cons 5 0 29 1 (.cons 26 a .nil (.cons 26 b .nil (.cons 26 c .nil .nil))) 0 0 .nil .nil .nil .nil) (fun i => if i < 0 then 0 else 0) 0 (s0 100000) = some (1, (fun i => if i < 0 then 0 else 0), ap k a b c, (s0 100000).more (13 + arN k)) := by
    show evL (sem (p8 k a b c) ap 3 8) 3 _ _ 0 (s0 100000) = _
    unfold evL stepSt
    rw [if_neg (by decide), if_pos (by show 0 < 100000; decide)]
    show (match (match (sem (p8 k a b c) ap 3 8).val 29 1 (.cons 26 a .nil (.cons 26 b .nil (.cons 26 c .nil .nil))) (fun i => if i < 0 then 0 else 0) ((s0 100000).more 1) with
      | none => none
      | some (_, false, s1) => some (2, (fun i => if i < 0 then 0 else 0), 0, s1)
      | some (a, true, s1) => stepKind (sem (p8 k _ b c) ap 3 8) 5 0 0 0 .nil .nil .nil a (fun i => if i < 0 then 0 else 0) 0 s1) with
      | none => none
      | some (way, L', v', s') => if way = 0 then evL (sem (p8 k a b c) ap 3 8) 3 .nil L' v' s' else some (way, L', v', s')) = _
    rw [hv]
    rfl
  show (match (sem (p8 k a b c) ap 3 9).lst (.cons 5 0 29 1 (.cons 26 a .nil (.cons 26 b .nil (.cons 26 c .nil .nil))) 0 0 .nil .nil .nil .nil) (fun i => if i < 0 then 0 else 0) 0 (s0 100000) with
    | none => none
    | some (way, _, v, s') => if way = 2 then some (0, false, s') else some (v, true, s')) = _
  rw [hl]
  rfl
theorem run7 (k a b c : Nat) (h1 : 1 ≤ k) (h25 : k ≤ 25) (ha : a < 18446744073709551616) (hb : b < 18446744073709551616) (hc : c < 18446744073709551616) : ∃ s', stepCall (p7 k a b c) (sem (p7 k a b c) ap 3 12) 0 0 (fun _ => 0) (s0 100000) = some (0, true, s') ∧ s'.dry = false ∧ s'.mem 5 = a := by
  have hn := arN_in k
  generalize hP : p7 k a b c = P
  have hp : P[1]? = some (fK k) := by rw [← hP]; rfl
  have hp0 : P[0]? = some ⟨0, 3, mainB a b c⟩ := by rw [← hP]; rfl
  have hx : ap 24 (ap k a b c) (ap k a b c) 0 = 0 := ap_24 _
  generalize hvv : ap k a b c = v at hx
  generalize hL0 : (fun i => if i < 0 then 0 else 0 : Nat → Nat) = L0
  obtain ⟨S, hS⟩ : ∃ S, S = (s0 100000).more (17 + arN k) := ⟨_, rfl⟩
  have hSu : S.used = 17 + arN k := by rw [hS]; show 0 + (17 + arN k) = _; omega
  have hSf : S.fuel = 100000 := by rw [hS]; rfl
  have hSd : S.dry = false := by rw [hS]; rfl
  obtain ⟨S4, hS4⟩ : ∃ S4, S4 = (S.more 3).put 5 a := ⟨_, rfl⟩
  have hu4 : S4.used = 20 + arN k := by rw [hS4]; show S.used + 3 = _; omega
  have hf4 : S4.fuel = 100000 := by rw [hS4]; exact hSf
  have hd4 : S4.dry = false := by rw [hS4]; exact hSd
  have hm4 : S4.mem 5 = a := by rw [hS4]; show upd S.mem 5 a 5 = a; unfold upd; rw [if_pos rfl]
  obtain ⟨L2, hL2⟩ : ∃ L2, L2 = upd (upd L0 0 a) 1 c := ⟨_, rfl⟩
  have l20 : L2 0 = a := by rw [hL2]; rfl
  have l21 : L2 1 = c := by rw [hL2]; rfl
  obtain ⟨L3, hL3⟩ : ∃ L3, L3 = upd L2 2 v := ⟨_, rfl⟩
  have l30 : L3 0 = a := by rw [hL3, hL2]; rfl
  have l31 : L3 1 = c := by rw [hL3, hL2]; rfl
  have l32 : L3 2 = v := by rw [hL3]; rfl
  have e3 : (sem P ap 3 11).val 29 1 (callX b) L2 ((s0 100000).more 5) = some (v, true, S) := by
    rw [val_call P 3 5 k hp h1 h25 a b c ha hb hc L2 l20 l21 ((s0 100000).more 5) (by show 0 + 5 + 20 ≤ 100000; decide), hvv]
    have : ((s0 100000).more 5).more (12 + arN k) = S := by rw [hS]; unfold Rs.more; simp; omega
    rw [this]
  have e5 : (sem P ap 3 11).val 24 0 (.cons 27 2 .nil (.cons 29 1 (callX b) .nil)) L3 S4.up = some (0, true, (S4.more 3).more (12 + arN k)) := by
    show stepVal P ap (sem P ap 3 10) 24 0 _ L3 S4.up = _
    unfold stepVal
    rw [if_pos (by show S4.used + 1 < S4.fuel; omega)]
    have e : evArgs (sem P ap 3 10).val (.cons 27 2 .nil (.cons 29 1 (callX b) .nil)) 0 (fun _ => 0) L3 S4.up.up = some (upd (upd (fun _ => 0) 0 v) 1 v, true, (S4.more 3).more (12 + arN k)) := by
      unfold evArgs
      rw [if_pos (by decide), val_loc P 3 9 2 (by decide) L3 S4.up.up (by show S4.used + 1 + 1 < S4.fuel; omega), l32]
      dsimp only
      unfold evArgs
      rw [if_pos (by decide), val_call P 3 4 k hp h1 h25 a b c ha hb hc L3 l30 l31 S4.up.up.up (by show S4.used + 1 + 1 + 1 + 20 ≤ S4.fuel; omega), hvv]
      rfl
    rw [e]
    dsimp only
    have := op_k P (sem P ap 3 10) 24 2 (by decide) (by decide) (upd (upd (fun _ => 0) 0 v) 1 v) L3 ((S4.more 3).more (12 + arN k))
    show stepOp P ap (sem P ap 3 10) (24 : Nat) 0 2 _ L3 ((S4.more 3).more (12 + arN k)) = _
    rw [this]
    show some (ap 24 v v 0, true, _) = _
    rw [hx]
  have hl : (sem P ap 3 12).lst (mainB a b c) L0 0 (s0 100000) = some (1, L3, 0, (S4.more 3).more (12 + arN k)) := by
    show evL (sem P ap 3 11) 3 (mainB a b c) L0 0 (s0 100000) = _
    unfold mainB evL stepSt
    rw [if_neg (by decide), if_pos (by show 0 < 100000; decide), val_const P 3 10 a _ _ (by show 0 + 1 < 100000; decide)]
    dsimp only
    unfold stepKind
    rw [if_pos rfl, if_pos (by decide)]
    dsimp only
    rw [if_pos rfl]
    unfold evL stepSt
    rw [if_neg (by decide), if_pos (by show 0 + 1 + 1 < 100000; decide), val_const P 3 10 c _ _ (by show 0 + 1 + 1 + 1 < 100000; decide)]
    dsimp only
    unfold stepKind
    rw [if_pos rfl, if_pos (by decide)]
    dsimp only
    rw [if_pos rfl]
    unfold evL stepSt
    rw [if_neg (by decide), if_pos (by show 0 + 1 + 1 + 1 + 1 < 100000; decide)]
    have hs : (s0 100000).up.up.up.up.up = (s0 100000).more 5 := rfl
    have hl2 : upd (upd L0 (0 : Int).toNat a) (1 : Int).toNat c = L2 := hL2.symm
    rw [hs, hl2, e3]
    dsimp only
    unfold stepKind
    rw [if_pos rfl, if_pos (by decide)]
    dsimp only
    rw [if_pos rfl]
    have hl3 : upd L2 (2 : Int).toNat v = L3 := hL3.symm
    rw [hl3]
    unfold evL stepSt
    rw [if_neg (by decide), if_pos (by omega), val_const P 3 10 5 _ _ (by show S.used + 1 < S.fuel; omega)]
    dsimp only
    unfold stepKind
    rw [if_neg (by decide), if_pos rfl, val_loc P 3 10 0 (by decide) _ _ (by show S.used + 1 + 1 < S.fuel; omega), l30]
    dsimp only
    rw [if_pos (by decide)]
    dsimp only
    rw [if_pos rfl]
    have hs4 : S.up.up.up.put 5 a = S4 := by rw [hS4]; rfl
    rw [hs4]
    unfold evL stepSt
    rw [if_neg (by decide), if_pos (by omega), e5]
    rfl
  refine ⟨(S4.more 3).more (12 + arN k), ?_, hd4, hm4⟩
  unfold stepCall
  rw [hp0]
  dsimp only
  rw [hL0, hl]
  rfl
end Ir
end Go.Proofs.YtcgpdijpppcbiaaGreatDoor
