/- Merged of Exd. Own work. -/
import Derived.Test.YtcgpdijpppcbiaaGreatDoorQ30
import Derived.Test.YtcgpdijpppcbiaaGreatDoorQ08
namespace Go.Proofs.YtcgpdijpppcbiaaGreatDoor
open Go.RowKit
set_option linter.unusedVariables false
set_option linter.unusedSimpArgs false
namespace Ir
open Kc
/-- A region's operations. -/
def regOf : Code → Nat → Option (Array Oper)
  | .region id ops _, n => if id = n then some ops else none
  | .seq a b, n => match regOf a n with | some r => some r | none => regOf b n
  | _, _ => none
noncomputable def ops7 : Array Oper := ((Tryz.f3.body.getD .skip |> (regOf · 7))).getD #[]
theorem ord_7 : ((List.range ops7.size).all fun k => ((ops7[k]?).map fun o => o.after.all fun e => !Region.binds .any e || decide (e.on < k)).getD false) = true := by kernel_rfl
theorem at_7 {i : Nat} {o : Oper} (ho : ops7[i]? = some o) {β : Type} (f : Oper → β) {x : β} (hx : (ops7[i]?).map f = some x) : f o = x := by rw [ho] at hx; exact Option.some.inj hx
theorem siz_7 : ops7.size = 21 := by kernel_rfl
def sl_7 (i : Nat) : Nat := if i = 20 then 16 else 64 + i
theorem sl_7_inj (i j : Nat) (hi : i < 21) (hj : j < 21) (h : sl_7 i = sl_7 j) : i = j := by
  unfold sl_7 at h
  split at h <;> split at h <;> omega
theorem sl_7_lt {A0 : Act} (hn : A0.tmps.size = 136) (i : Nat) (hi : i < 21) : sl_7 i < A0.tmps.size := by
  rw [hn]; unfold sl_7; split <;> omega
theorem sl_7_ne {j : Nat} (h : j < 16 ∨ (16 < j ∧ j < 64) ∨ 84 ≤ j) (i : Nat) (hi : i < 21) : sl_7 i ≠ j := by
  unfold sl_7; split <;> omega
def PV_7 (k a9 b c : Nat) : Nat → Value → World → Prop
  | 0, v, w => v = .int .u64 a9
  | 1, v, w => ExV w v 26 a9 .nil
  | 2, v, w => StV w v (.cons 1 0 26 a9 .nil 0 0 .nil .nil .nil .nil)
  | 3, v, w => v = .int .u64 c
  | 4, v, w => ExV w v 26 c .nil
  | 5, v, w => StV w v (.cons 1 1 26 c .nil 0 0 .nil .nil .nil .nil)
  | 6, v, w => ExV w v 29 1 (callX b)
  | 7, v, w => StV w v (.cons 1 2 29 1 (callX b) 0 0 .nil .nil .nil .nil)
  | 8, v, w => ExV w v 26 5 .nil
  | 9, v, w => ExV w v 27 0 .nil
  | 10, v, w => StV w v (.cons 2 0 26 5 .nil 27 0 .nil .nil .nil .nil)
  | 11, v, w => ExV w v 27 2 .nil
  | 12, v, w => ExV w v 29 1 (callX b)
  | 13, v, w => SlE w (fun _ => True) v (.cons 27 2 .nil (.cons 29 1 (callX b) .nil))
  | 14, v, w => ExV w v 24 0 (.cons 27 2 .nil (.cons 29 1 (callX b) .nil))
  | 15, v, w => StV w v (.cons 5 0 24 0 (.cons 27 2 .nil (.cons 29 1 (callX b) .nil)) 0 0 .nil .nil .nil .nil)
  | 16, v, w => SlS w (fun _ => True) v (mainB a9 b c)
  | 17, v, w => FnV w v ⟨0, 3, mainB a9 b c⟩
  | 18, v, w => FnV w v (fK k)
  | 19, v, w => SlP w (fun _ => True) v (p7 k a9 b c)
  | 20, v, w => SlP w (fun _ => True) v (p7 k a9 b c)
  | _, _, _ => True
theorem pv_7_kept {k a9 b c : Nat} : ∀ (i : Nat) (v : Value) (w w' : World), Kept (fun _ => False) w w' → PV_7 k a9 b c i v w → PV_7 k a9 b c i v w'
  | 0, v, w, w', hk, h => by have h : v = .int .u64 a9 := h; exact h
  | 1, v, w, w', hk, h => by have h : ExV w v 26 a9 .nil := h; exact h.kept hk
  | 2, v, w, w', hk, h => by have h : StV w v (.cons 1 0 26 a9 .nil 0 0 .nil .nil .nil .nil) := h; exact h.kept hk
  | 3, v, w, w', hk, h => by have h : v = .int .u64 c := h; exact h
  | 4, v, w, w', hk, h => by have h : ExV w v 26 c .nil := h; exact h.kept hk
  | 5, v, w, w', hk, h => by have h : StV w v (.cons 1 1 26 c .nil 0 0 .nil .nil .nil .nil) := h; exact h.kept hk
  | 6, v, w, w', hk, h => by have h : ExV w v 29 1 (callX b) := h; exact h.kept hk
  | 7, v, w, w', hk, h => by have h : StV w v (.cons 1 2 29 1 (callX b) 0 0 .nil .nil .nil .nil) := h; exact h.kept hk
  | 8, v, w, w', hk, h => by have h : ExV w v 26 5 .nil := h; exact h.kept hk
  | 9, v, w, w', hk, h => by have h : ExV w v 27 0 .nil := h; exact h.kept hk
  | 10, v, w, w', hk, h => by have h : StV w v (.cons 2 0 26 5 .nil 27 0 .nil .nil .nil .nil) := h; exact h.kept hk
  | 11, v, w, w', hk, h => by have h : ExV w v 27 2 .nil := h; exact h.kept hk
  | 12, v, w, w', hk, h => by have h : ExV w v 29 1 (callX b) := h; exact h.kept hk
  | 13, v, w, w', hk, h => by have h : SlE w (fun _ => True) v (.cons 27 2 .nil (.cons 29 1 (callX b) .nil)) := h; exact h.kept hk fun _ _ => id
  | 14, v, w, w', hk, h => by have h : ExV w v 24 0 (.cons 27 2 .nil (.cons 29 1 (callX b) .nil)) := h; exact h.kept hk
  | 15, v, w, w', hk, h => by have h : StV w v (.cons 5 0 24 0 (.cons 27 2 .nil (.cons 29 1 (callX b) .nil)) 0 0 .nil .nil .nil .nil) := h; exact h.kept hk
  | 16, v, w, w', hk, h => by have h : SlS w (fun _ => True) v (mainB a9 b c) := h; exact h.kept hk fun _ _ => id
  | 17, v, w, w', hk, h => by have h : FnV w v ⟨0, 3, mainB a9 b c⟩ := h; exact h.kept hk
  | 18, v, w, w', hk, h => by have h : FnV w v (fK k) := h; exact h.kept hk
  | 19, v, w, w', hk, h => by have h : SlP w (fun _ => True) v (p7 k a9 b c) := h; exact h.kept hk fun _ _ => id
  | 20, v, w, w', hk, h => by have h : SlP w (fun _ => True) v (p7 k a9 b c) := h; exact h.kept hk fun _ _ => id
  | _ + 21, _, _, _, _, _ => trivial
structure Pre7 (k a9 b c : Nat) (A0 : Act) (W : World) (q15 : Nat) (E15 : Array Value) (q14 : Nat) (E14 : Array Value) : Prop where
  n : A0.tmps.size = 136
  t1 : A0.tmps.getD 1 undef = .int .u64 a9
  t3 : A0.tmps.getD 3 undef = .int .u64 c
  ha : a9 < 18446744073709551616
  hc : c < 18446744073709551616
  t15 : A0.tmps.getD 15 undef = .pointer (some ⟨q15, 0, none⟩)
  ld15 : ∀ y, Kept (fun _ => False) W y → (Instr.loadAt 30 (.pointer (some ⟨q15, 0, none⟩))).run Tryz.prog y = .ok (.agg E15) y
  ex15 : ExV W (.agg E15) 29 1 (callX b)
  t14 : A0.tmps.getD 14 undef = .pointer (some ⟨q14, 0, none⟩)
  ld14 : ∀ y, Kept (fun _ => False) W y → (Instr.loadAt 37 (.pointer (some ⟨q14, 0, none⟩))).run Tryz.prog y = .ok (.agg E14) y
  fn14 : FnV W (.agg E14) (fK k)
section
variable {k a9 b c : Nat} {A0 : Act} {W w : World} {q15 q14 : Nat} {E15 E14 : Array Value} {l : Array Bool} {a : Act} {o : Oper} {Q : Exit → Act → World → Prop}
theorem s_7_0 (hp : Pre7 k a9 b c A0 W q15 E15 q14 E14) (h : RI 21 sl_7 (PV_7 k a9 b c) A0 W l a w) (ho : ops7[0]? = some o) (ha : (o.after.all fun e => !Region.binds .any e || l.getD e.on false) = true) : o.guard = none ∧ o.wp Tryz.prog a w (fun a' w' => RI 21 sl_7 (PV_7 k a9 b c) A0 W (l.setIfInBounds 0 true) a' w') Q := by
  refine ⟨at_7 ho (·.guard) (by kernel_rfl), ?_⟩
  have hd : o.dst = some (sl_7 0) := at_7 ho (·.dst) (by kernel_rfl)
  exact wp_moveE (.tmp 1) (at_7 ho (·.op) (by kernel_rfl)) (.int .u64 a9) (by show a.tmps.getD 1 undef = _; rw [h.old 1 (sl_7_ne (by decide))]; exact hp.t1) (h.step sl_7_inj (sl_7_lt hp.n) pv_7_kept 0 (by decide) (Kept.refl _ _) rfl _ hd)
theorem s_7_1 (hp : Pre7 k a9 b c A0 W q15 E15 q14 E14) (h : RI 21 sl_7 (PV_7 k a9 b c) A0 W l a w) (ho : ops7[1]? = some o) (ha : (o.after.all fun e => !Region.binds .any e || l.getD e.on false) = true) : o.guard = none ∧ o.wp Tryz.prog a w (fun a' w' => RI 21 sl_7 (PV_7 k a9 b c) A0 W (l.setIfInBounds 1 true) a' w') Q := by
  refine ⟨at_7 ho (·.guard) (by kernel_rfl), ?_⟩
  have hd : o.dst = some (sl_7 1) := at_7 ho (·.dst) (by kernel_rfl)
  exact wp_callE1 9 (.tmp 64) 22 (at_7 ho (·.op) (by kernel_rfl)) (.int .u64 (a9 : Nat)) _ (show a.tmps.getD 64 undef = _ from h.pv 0 (by decide) (dep_of ha 0 (at_7 ho (fun o => o.after.any fun e => e.on == 0 && Region.binds .any e) (by kernel_rfl)))) (runCst _ _) ((constant_walk a9 w).mono fun e w' ⟨he, hk⟩ => ⟨he, h.step sl_7_inj (sl_7_lt hp.n) pv_7_kept 1 (by decide) hk (ExV.leaf _ 26 hp.ha) _ hd⟩)
theorem s_7_2 (hp : Pre7 k a9 b c A0 W q15 E15 q14 E14) (h : RI 21 sl_7 (PV_7 k a9 b c) A0 W l a w) (ho : ops7[2]? = some o) (ha : (o.after.all fun e => !Region.binds .any e || l.getD e.on false) = true) : o.guard = none ∧ o.wp Tryz.prog a w (fun a' w' => RI 21 sl_7 (PV_7 k a9 b c) A0 W (l.setIfInBounds 2 true) a' w') Q := by
  refine ⟨at_7 ho (·.guard) (by kernel_rfl), ?_⟩
  have hd : o.dst = some (sl_7 2) := at_7 ho (·.dst) (by kernel_rfl)
  obtain ⟨aA, mA, cA, eA, gA, nA⟩ : ExV w (a.tmps.getD 65 undef) 26 a9 .nil := h.pv 1 (by decide) (dep_of ha 1 (at_7 ho (fun o => o.after.any fun e => e.on == 1 && Region.binds .any e) (by kernel_rfl)))
  exact wp_bld3 35 (.const (.int .i64 1)) (.const (.int .i64 0)) (.tmp 65) (at_7 ho (·.op) (by kernel_rfl)) (.int .i64 1) (.int .i64 0) _ rfl rfl eA _ (bltNA _ _ _ _ _) (h.step sl_7_inj (sl_7_lt hp.n) pv_7_kept 2 (by decide) (Kept.refl _ _) (show StV w _ (.cons 1 0 26 a9 .nil 0 0 .nil .nil .nil .nil) from ⟨aA, mA, cA, none, 0, 0, none, 0, 0, none, 0, 0, rfl, gA, slEn, slS0, slS0, nA, by decide⟩) _ hd)
theorem s_7_3 (hp : Pre7 k a9 b c A0 W q15 E15 q14 E14) (h : RI 21 sl_7 (PV_7 k a9 b c) A0 W l a w) (ho : ops7[3]? = some o) (ha : (o.after.all fun e => !Region.binds .any e || l.getD e.on false) = true) : o.guard = none ∧ o.wp Tryz.prog a w (fun a' w' => RI 21 sl_7 (PV_7 k a9 b c) A0 W (l.setIfInBounds 3 true) a' w') Q := by
  refine ⟨at_7 ho (·.guard) (by kernel_rfl), ?_⟩
  have hd : o.dst = some (sl_7 3) := at_7 ho (·.dst) (by kernel_rfl)
  exact wp_moveE (.tmp 3) (at_7 ho (·.op) (by kernel_rfl)) (.int .u64 c) (by show a.tmps.getD 3 undef = _; rw [h.old 3 (sl_7_ne (by decide))]; exact hp.t3) (h.step sl_7_inj (sl_7_lt hp.n) pv_7_kept 3 (by decide) (Kept.refl _ _) rfl _ hd)
theorem s_7_4 (hp : Pre7 k a9 b c A0 W q15 E15 q14 E14) (h : RI 21 sl_7 (PV_7 k a9 b c) A0 W l a w) (ho : ops7[4]? = some o) (ha : (o.after.all fun e => !Region.binds .any e || l.getD e.on false) = true) : o.guard = none ∧ o.wp Tryz.prog a w (fun a' w' => RI 21 sl_7 (PV_7 k a9 b c) A0 W (l.setIfInBounds 4 true) a' w') Q := by
  refine ⟨at_7 ho (·.guard) (by kernel_rfl), ?_⟩
  have hd : o.dst = some (sl_7 4) := at_7 ho (·.dst) (by kernel_rfl)
  exact wp_callE1 9 (.tmp 67) 22 (at_7 ho (·.op) (by kernel_rfl)) (.int .u64 (c : Nat)) _ (show a.tmps.getD 67 undef = _ from h.pv 3 (by decide) (dep_of ha 3 (at_7 ho (fun o => o.after.any fun e => e.on == 3 && Region.binds .any e) (by kernel_rfl)))) (runCst _ _) ((constant_walk c w).mono fun e w' ⟨he, hk⟩ => ⟨he, h.step sl_7_inj (sl_7_lt hp.n) pv_7_kept 4 (by decide) hk (ExV.leaf _ 26 hp.hc) _ hd⟩)
theorem s_7_5 (hp : Pre7 k a9 b c A0 W q15 E15 q14 E14) (h : RI 21 sl_7 (PV_7 k a9 b c) A0 W l a w) (ho : ops7[5]? = some o) (ha : (o.after.all fun e => !Region.binds .any e || l.getD e.on false) = true) : o.guard = none ∧ o.wp Tryz.prog a w (fun a' w' => RI 21 sl_7 (PV_7 k a9 b c) A0 W (l.setIfInBounds 5 true) a' w') Q := by
  refine ⟨at_7 ho (·.guard) (by kernel_rfl), ?_⟩
  have hd : o.dst = some (sl_7 5) := at_7 ho (·.dst) (by kernel_rfl)
  obtain ⟨aA, mA, cA, eA, gA, nA⟩ : ExV w (a.tmps.getD 68 undef) 26 c .nil := h.pv 4 (by decide) (dep_of ha 4 (at_7 ho (fun o => o.after.any fun e => e.on == 4 && Region.binds .any e) (by kernel_rfl)))
  exact wp_bld3 35 (.const (.int .i64 1)) (.const (.int .i64 1)) (.tmp 68) (at_7 ho (·.op) (by kernel_rfl)) (.int .i64 1) (.int .i64 1) _ rfl rfl eA _ (bltNA _ _ _ _ _) (h.step sl_7_inj (sl_7_lt hp.n) pv_7_kept 5 (by decide) (Kept.refl _ _) (show StV w _ (.cons 1 1 26 c .nil 0 0 .nil .nil .nil .nil) from ⟨aA, mA, cA, none, 0, 0, none, 0, 0, none, 0, 0, rfl, gA, slEn, slS0, slS0, nA, by decide⟩) _ hd)
theorem s_7_6 (hp : Pre7 k a9 b c A0 W q15 E15 q14 E14) (h : RI 21 sl_7 (PV_7 k a9 b c) A0 W l a w) (ho : ops7[6]? = some o) (ha : (o.after.all fun e => !Region.binds .any e || l.getD e.on false) = true) : o.guard = none ∧ o.wp Tryz.prog a w (fun a' w' => RI 21 sl_7 (PV_7 k a9 b c) A0 W (l.setIfInBounds 6 true) a' w') Q := by
  refine ⟨at_7 ho (·.guard) (by kernel_rfl), ?_⟩
  have hd : o.dst = some (sl_7 6) := at_7 ho (·.dst) (by kernel_rfl)
  exact wp_loadE (P := Tryz.prog) (w := w) 30 (.tmp 15) (at_7 ho (·.op) (by kernel_rfl)) (.pointer (some ⟨q15, 0, none⟩)) _ (by show a.tmps.getD 15 undef = _; rw [h.old 15 (sl_7_ne (by decide))]; exact hp.t15) (hp.ld15 w h.kp) (h.step sl_7_inj (sl_7_lt hp.n) pv_7_kept 6 (by decide) (Kept.refl _ _) (show ExV w _ 29 1 (callX b) from hp.ex15.kept h.kp) _ hd)
theorem s_7_7 (hp : Pre7 k a9 b c A0 W q15 E15 q14 E14) (h : RI 21 sl_7 (PV_7 k a9 b c) A0 W l a w) (ho : ops7[7]? = some o) (ha : (o.after.all fun e => !Region.binds .any e || l.getD e.on false) = true) : o.guard = none ∧ o.wp Tryz.prog a w (fun a' w' => RI 21 sl_7 (PV_7 k a9 b c) A0 W (l.setIfInBounds 7 true) a' w') Q := by
  refine ⟨at_7 ho (·.guard) (by kernel_rfl), ?_⟩
  have hd : o.dst = some (sl_7 7) := at_7 ho (·.dst) (by kernel_rfl)
  obtain ⟨aA, mA, cA, eA, gA, nA⟩ : ExV w (a.tmps.getD 70 undef) 29 1 (callX b) := h.pv 6 (by decide) (dep_of ha 6 (at_7 ho (fun o => o.after.any fun e => e.on == 6 && Region.binds .any e) (by kernel_rfl)))
  exact wp_bld3 35 (.const (.int .i64 1)) (.const (.int .i64 2)) (.tmp 70) (at_7 ho (·.op) (by kernel_rfl)) (.int .i64 1) (.int .i64 2) _ rfl rfl eA _ (bltNA _ _ _ _ _) (h.step sl_7_inj (sl_7_lt hp.n) pv_7_kept 7 (by decide) (Kept.refl _ _) (show StV w _ (.cons 1 2 29 1 (callX b) 0 0 .nil .nil .nil .nil) from ⟨aA, mA, cA, none, 0, 0, none, 0, 0, none, 0, 0, rfl, gA, slEn, slS0, slS0, nA, by decide⟩) _ hd)
theorem s_7_8 (hp : Pre7 k a9 b c A0 W q15 E15 q14 E14) (h : RI 21 sl_7 (PV_7 k a9 b c) A0 W l a w) (ho : ops7[8]? = some o) (ha : (o.after.all fun e => !Region.binds .any e || l.getD e.on false) = true) : o.guard = none ∧ o.wp Tryz.prog a w (fun a' w' => RI 21 sl_7 (PV_7 k a9 b c) A0 W (l.setIfInBounds 8 true) a' w') Q := by
  refine ⟨at_7 ho (·.guard) (by kernel_rfl), ?_⟩
  have hd : o.dst = some (sl_7 8) := at_7 ho (·.dst) (by kernel_rfl)
  exact wp_callE1 9 (.const (.int .u64 5)) 22 (at_7 ho (·.op) (by kernel_rfl)) (.int .u64 (5 : Nat)) _ rfl (runCst _ _) ((constant_walk 5 w).mono fun e w' ⟨he, hk⟩ => ⟨he, h.step sl_7_inj (sl_7_lt hp.n) pv_7_kept 8 (by decide) hk (ExV.leaf _ 26 (by decide)) _ hd⟩)
theorem s_7_9 (hp : Pre7 k a9 b c A0 W q15 E15 q14 E14) (h : RI 21 sl_7 (PV_7 k a9 b c) A0 W l a w) (ho : ops7[9]? = some o) (ha : (o.after.all fun e => !Region.binds .any e || l.getD e.on false) = true) : o.guard = none ∧ o.wp Tryz.prog a w (fun a' w' => RI 21 sl_7 (PV_7 k a9 b c) A0 W (l.setIfInBounds 9 true) a' w') Q := by
  refine ⟨at_7 ho (·.guard) (by kernel_rfl), ?_⟩
  have hd : o.dst = some (sl_7 9) := at_7 ho (·.dst) (by kernel_rfl)
  exact wp_callE1 7 (.const (.int .u64 0)) 22 (at_7 ho (·.op) (by kernel_rfl)) (.int .u64 (0 : Nat)) _ rfl (runLoc _ _) ((local9_walk 0 w).mono fun e w' ⟨he, hk⟩ => ⟨he, h.step sl_7_inj (sl_7_lt hp.n) pv_7_kept 9 (by decide) hk (ExV.leaf _ 27 (by decide)) _ hd⟩)
theorem s_7_10 (hp : Pre7 k a9 b c A0 W q15 E15 q14 E14) (h : RI 21 sl_7 (PV_7 k a9 b c) A0 W l a w) (ho : ops7[10]? = some o) (ha : (o.after.all fun e => !Region.binds .any e || l.getD e.on false) = true) : o.guard = none ∧ o.wp Tryz.prog a w (fun a' w' => RI 21 sl_7 (PV_7 k a9 b c) A0 W (l.setIfInBounds 10 true) a' w') Q := by
  refine ⟨at_7 ho (·.guard) (by kernel_rfl), ?_⟩
  have hd : o.dst = some (sl_7 10) := at_7 ho (·.dst) (by kernel_rfl)
  obtain ⟨aA, mA, cA, eA, gA, nA⟩ : ExV w (a.tmps.getD 72 undef) 26 5 .nil := h.pv 8 (by decide) (dep_of ha 8 (at_7 ho (fun o => o.after.any fun e => e.on == 8 && Region.binds .any e) (by kernel_rfl)))
  obtain ⟨aB, mB, cB, eB, gB, nB⟩ : ExV w (a.tmps.getD 73 undef) 27 0 .nil := h.pv 9 (by decide) (dep_of ha 9 (at_7 ho (fun o => o.after.any fun e => e.on == 9 && Region.binds .any e) (by kernel_rfl)))
  exact wp_bld3 35 (.const (.int .i64 2)) (.tmp 72) (.tmp 73) (at_7 ho (·.op) (by kernel_rfl)) (.int .i64 2) _ _ rfl eA eB _ (bltAB _ _ _ _ _ _ _) (h.step sl_7_inj (sl_7_lt hp.n) pv_7_kept 10 (by decide) (Kept.refl _ _) (show StV w _ (.cons 2 0 26 5 .nil 27 0 .nil .nil .nil .nil) from ⟨aA, mA, cA, aB, mB, cB, none, 0, 0, none, 0, 0, rfl, gA, gB, slS0, slS0, nA, nB⟩) _ hd)
theorem s_7_11 (hp : Pre7 k a9 b c A0 W q15 E15 q14 E14) (h : RI 21 sl_7 (PV_7 k a9 b c) A0 W l a w) (ho : ops7[11]? = some o) (ha : (o.after.all fun e => !Region.binds .any e || l.getD e.on false) = true) : o.guard = none ∧ o.wp Tryz.prog a w (fun a' w' => RI 21 sl_7 (PV_7 k a9 b c) A0 W (l.setIfInBounds 11 true) a' w') Q := by
  refine ⟨at_7 ho (·.guard) (by kernel_rfl), ?_⟩
  have hd : o.dst = some (sl_7 11) := at_7 ho (·.dst) (by kernel_rfl)
  exact wp_callE1 7 (.const (.int .u64 2)) 22 (at_7 ho (·.op) (by kernel_rfl)) (.int .u64 (2 : Nat)) _ rfl (runLoc _ _) ((local9_walk 2 w).mono fun e w' ⟨he, hk⟩ => ⟨he, h.step sl_7_inj (sl_7_lt hp.n) pv_7_kept 11 (by decide) hk (ExV.leaf _ 27 (by decide)) _ hd⟩)
theorem s_7_12 (hp : Pre7 k a9 b c A0 W q15 E15 q14 E14) (h : RI 21 sl_7 (PV_7 k a9 b c) A0 W l a w) (ho : ops7[12]? = some o) (ha : (o.after.all fun e => !Region.binds .any e || l.getD e.on false) = true) : o.guard = none ∧ o.wp Tryz.prog a w (fun a' w' => RI 21 sl_7 (PV_7 k a9 b c) A0 W (l.setIfInBounds 12 true) a' w') Q := by
  refine ⟨at_7 ho (·.guard) (by kernel_rfl), ?_⟩
  have hd : o.dst = some (sl_7 12) := at_7 ho (·.dst) (by kernel_rfl)
  exact wp_loadE (P := Tryz.prog) (w := w) 30 (.tmp 15) (at_7 ho (·.op) (by kernel_rfl)) (.pointer (some ⟨q15, 0, none⟩)) _ (by show a.tmps.getD 15 undef = _; rw [h.old 15 (sl_7_ne (by decide))]; exact hp.t15) (hp.ld15 w h.kp) (h.step sl_7_inj (sl_7_lt hp.n) pv_7_kept 12 (by decide) (Kept.refl _ _) (show ExV w _ 29 1 (callX b) from hp.ex15.kept h.kp) _ hd)
theorem s_7_13 (hp : Pre7 k a9 b c A0 W q15 E15 q14 E14) (h : RI 21 sl_7 (PV_7 k a9 b c) A0 W l a w) (ho : ops7[13]? = some o) (ha : (o.after.all fun e => !Region.binds .any e || l.getD e.on false) = true) : o.guard = none ∧ o.wp Tryz.prog a w (fun a' w' => RI 21 sl_7 (PV_7 k a9 b c) A0 W (l.setIfInBounds 13 true) a' w') Q := by
  refine ⟨at_7 ho (·.guard) (by kernel_rfl), ?_⟩
  have hd : o.dst = some (sl_7 13) := at_7 ho (·.dst) (by kernel_rfl)
  have h11 : ExV w (a.tmps.getD 75 undef) 27 2 .nil := h.pv 11 (by decide) (dep_of ha 11 (at_7 ho (fun o => o.after.any fun e => e.on == 11 && Region.binds .any e) (by kernel_rfl)))
  have h12 : ExV w (a.tmps.getD 76 undef) 29 1 (callX b) := h.pv 12 (by decide) (dep_of ha 12 (at_7 ho (fun o => o.after.any fun e => e.on == 12 && Region.binds .any e) (by kernel_rfl)))
  obtain ⟨V, y', hr, hk, hs⟩ := bex2 h11 h12
  exact wp_bs (n := 2) (t := 28) (parts := #[(0, .tmp 75), (1, .tmp 76)]) (at_7 ho (·.op) (by kernel_rfl)) #[(0, a.tmps.getD 75 undef), (1, a.tmps.getD 76 undef)] (by simp only [List.map_toArray, List.map_cons, List.map_nil]; rfl) hr (h.step sl_7_inj (sl_7_lt hp.n) pv_7_kept 13 (by decide) hk hs _ hd)
theorem s_7_14 (hp : Pre7 k a9 b c A0 W q15 E15 q14 E14) (h : RI 21 sl_7 (PV_7 k a9 b c) A0 W l a w) (ho : ops7[14]? = some o) (ha : (o.after.all fun e => !Region.binds .any e || l.getD e.on false) = true) : o.guard = none ∧ o.wp Tryz.prog a w (fun a' w' => RI 21 sl_7 (PV_7 k a9 b c) A0 W (l.setIfInBounds 14 true) a' w') Q := by
  refine ⟨at_7 ho (·.guard) (by kernel_rfl), ?_⟩
  have hd : o.dst = some (sl_7 14) := at_7 ho (·.dst) (by kernel_rfl)
  have hs : SlE w (fun _ => True) (a.tmps.getD 77 undef) (.cons 27 2 .nil (.cons 29 1 (callX b) .nil)) := h.pv 13 (by decide) (dep_of ha 13 (at_7 ho (fun o => o.after.any fun e => e.on == 13 && Region.binds .any e) (by kernel_rfl)))
  obtain ⟨sa, sc, e, _⟩ := id hs
  rw [e] at hs
  exact wp_callE2 8 (.const (.int .i64 24)) (.tmp 77) 3 28 (at_7 ho (·.op) (by kernel_rfl)) (.int .i64 24) (.slice sa ((.cons 27 2 .nil (.cons 29 1 (callX b) .nil)) : Ef).len sc) rfl e (runOp _ _ _) ((op9_walk 24 sa ((.cons 27 2 .nil (.cons 29 1 (callX b) .nil)) : Ef).len sc w).mono fun e w' ⟨he, hk⟩ => ⟨_, he, h.step sl_7_inj (sl_7_lt hp.n) pv_7_kept 14 (by decide) hk (show ExV _ _ 24 0 (.cons 27 2 .nil (.cons 29 1 (callX b) .nil)) from ⟨sa, _, sc, rfl, hs.kept hk fun _ _ => id, by decide⟩) _ hd⟩)
theorem s_7_15 (hp : Pre7 k a9 b c A0 W q15 E15 q14 E14) (h : RI 21 sl_7 (PV_7 k a9 b c) A0 W l a w) (ho : ops7[15]? = some o) (ha : (o.after.all fun e => !Region.binds .any e || l.getD e.on false) = true) : o.guard = none ∧ o.wp Tryz.prog a w (fun a' w' => RI 21 sl_7 (PV_7 k a9 b c) A0 W (l.setIfInBounds 15 true) a' w') Q := by
  refine ⟨at_7 ho (·.guard) (by kernel_rfl), ?_⟩
  have hd : o.dst = some (sl_7 15) := at_7 ho (·.dst) (by kernel_rfl)
  obtain ⟨aA, mA, cA, eA, gA, nA⟩ : ExV w (a.tmps.getD 78 undef) 24 0 (.cons 27 2 .nil (.cons 29 1 (callX b) .nil)) := h.pv 14 (by decide) (dep_of ha 14 (at_7 ho (fun o => o.after.any fun e => e.on == 14 && Region.binds .any e) (by kernel_rfl)))
  exact wp_bld2 35 (.const (.int .i64 5)) (.tmp 78) (at_7 ho (·.op) (by kernel_rfl)) (.int .i64 5) _ rfl eA _ (bltA _ _ _ _) (h.step sl_7_inj (sl_7_lt hp.n) pv_7_kept 15 (by decide) (Kept.refl _ _) (show StV w _ (.cons 5 0 24 0 (.cons 27 2 .nil (.cons 29 1 (callX b) .nil)) 0 0 .nil .nil .nil .nil) from ⟨aA, mA, cA, none, 0, 0, none, 0, 0, none, 0, 0, rfl, gA, slEn, slS0, slS0, nA, by decide⟩) _ hd)
theorem s_7_16 (hp : Pre7 k a9 b c A0 W q15 E15 q14 E14) (h : RI 21 sl_7 (PV_7 k a9 b c) A0 W l a w) (ho : ops7[16]? = some o) (ha : (o.after.all fun e => !Region.binds .any e || l.getD e.on false) = true) : o.guard = none ∧ o.wp Tryz.prog a w (fun a' w' => RI 21 sl_7 (PV_7 k a9 b c) A0 W (l.setIfInBounds 16 true) a' w') Q := by
  refine ⟨at_7 ho (·.guard) (by kernel_rfl), ?_⟩
  have hd : o.dst = some (sl_7 16) := at_7 ho (·.dst) (by kernel_rfl)
  have h2 : StV w (a.tmps.getD 66 undef) (.cons 1 0 26 a9 .nil 0 0 .nil .nil .nil .nil) := h.pv 2 (by decide) (dep_of ha 2 (at_7 ho (fun o => o.after.any fun e => e.on == 2 && Region.binds .any e) (by kernel_rfl)))
  have h5 : StV w (a.tmps.getD 69 undef) (.cons 1 1 26 c .nil 0 0 .nil .nil .nil .nil) := h.pv 5 (by decide) (dep_of ha 5 (at_7 ho (fun o => o.after.any fun e => e.on == 5 && Region.binds .any e) (by kernel_rfl)))
  have h7 : StV w (a.tmps.getD 71 undef) (.cons 1 2 29 1 (callX b) 0 0 .nil .nil .nil .nil) := h.pv 7 (by decide) (dep_of ha 7 (at_7 ho (fun o => o.after.any fun e => e.on == 7 && Region.binds .any e) (by kernel_rfl)))
  have h10 : StV w (a.tmps.getD 74 undef) (.cons 2 0 26 5 .nil 27 0 .nil .nil .nil .nil) := h.pv 10 (by decide) (dep_of ha 10 (at_7 ho (fun o => o.after.any fun e => e.on == 10 && Region.binds .any e) (by kernel_rfl)))
  have h15 : StV w (a.tmps.getD 79 undef) (.cons 5 0 24 0 (.cons 27 2 .nil (.cons 29 1 (callX b) .nil)) 0 0 .nil .nil .nil .nil) := h.pv 15 (by decide) (dep_of ha 15 (at_7 ho (fun o => o.after.any fun e => e.on == 15 && Region.binds .any e) (by kernel_rfl)))
  obtain ⟨V, y', hr, hk, hs⟩ := bst5 h2 h5 h7 h10 h15
  exact wp_bs (n := 5) (t := 33) (parts := #[(0, .tmp 66), (1, .tmp 69), (2, .tmp 71), (3, .tmp 74), (4, .tmp 79)]) (at_7 ho (·.op) (by kernel_rfl)) #[(0, a.tmps.getD 66 undef), (1, a.tmps.getD 69 undef), (2, a.tmps.getD 71 undef), (3, a.tmps.getD 74 undef), (4, a.tmps.getD 79 undef)] (by simp only [List.map_toArray, List.map_cons, List.map_nil]; rfl) hr (h.step sl_7_inj (sl_7_lt hp.n) pv_7_kept 16 (by decide) hk hs _ hd)
theorem s_7_17 (hp : Pre7 k a9 b c A0 W q15 E15 q14 E14) (h : RI 21 sl_7 (PV_7 k a9 b c) A0 W l a w) (ho : ops7[17]? = some o) (ha : (o.after.all fun e => !Region.binds .any e || l.getD e.on false) = true) : o.guard = none ∧ o.wp Tryz.prog a w (fun a' w' => RI 21 sl_7 (PV_7 k a9 b c) A0 W (l.setIfInBounds 17 true) a' w') Q := by
  refine ⟨at_7 ho (·.guard) (by kernel_rfl), ?_⟩
  have hd : o.dst = some (sl_7 17) := at_7 ho (·.dst) (by kernel_rfl)
  have hs : SlS w (fun _ => True) (a.tmps.getD 80 undef) (mainB a9 b c) := h.pv 16 (by decide) (dep_of ha 16 (at_7 ho (fun o => o.after.any fun e => e.on == 16 && Region.binds .any e) (by kernel_rfl)))
  obtain ⟨sa, sc, e, _⟩ := id hs
  rw [e] at hs
  exact wp_bld2 37 (.const (.int .i64 3)) (.tmp 80) (at_7 ho (·.op) (by kernel_rfl)) (.int .i64 3) (.slice sa ((mainB a9 b c) : Sf).len sc) rfl e _ (bltFL _ _ _ _) (h.step sl_7_inj (sl_7_lt hp.n) pv_7_kept 17 (by decide) (Kept.refl _ _) (show FnV w _ ⟨0, 3, mainB a9 b c⟩ from ⟨sa, _, sc, rfl, hs⟩) _ hd)
theorem s_7_18 (hp : Pre7 k a9 b c A0 W q15 E15 q14 E14) (h : RI 21 sl_7 (PV_7 k a9 b c) A0 W l a w) (ho : ops7[18]? = some o) (ha : (o.after.all fun e => !Region.binds .any e || l.getD e.on false) = true) : o.guard = none ∧ o.wp Tryz.prog a w (fun a' w' => RI 21 sl_7 (PV_7 k a9 b c) A0 W (l.setIfInBounds 18 true) a' w') Q := by
  refine ⟨at_7 ho (·.guard) (by kernel_rfl), ?_⟩
  have hd : o.dst = some (sl_7 18) := at_7 ho (·.dst) (by kernel_rfl)
  exact wp_loadE (P := Tryz.prog) (w := w) 37 (.tmp 14) (at_7 ho (·.op) (by kernel_rfl)) (.pointer (some ⟨q14, 0, none⟩)) _ (by show a.tmps.getD 14 undef = _; rw [h.old 14 (sl_7_ne (by decide))]; exact hp.t14) (hp.ld14 w h.kp) (h.step sl_7_inj (sl_7_lt hp.n) pv_7_kept 18 (by decide) (Kept.refl _ _) (show FnV w _ (fK k) from hp.fn14.kept h.kp) _ hd)
theorem s_7_19 (hp : Pre7 k a9 b c A0 W q15 E15 q14 E14) (h : RI 21 sl_7 (PV_7 k a9 b c) A0 W l a w) (ho : ops7[19]? = some o) (ha : (o.after.all fun e => !Region.binds .any e || l.getD e.on false) = true) : o.guard = none ∧ o.wp Tryz.prog a w (fun a' w' => RI 21 sl_7 (PV_7 k a9 b c) A0 W (l.setIfInBounds 19 true) a' w') Q := by
  refine ⟨at_7 ho (·.guard) (by kernel_rfl), ?_⟩
  have hd : o.dst = some (sl_7 19) := at_7 ho (·.dst) (by kernel_rfl)
  have h17 : FnV w (a.tmps.getD 81 undef) ⟨0, 3, mainB a9 b c⟩ := h.pv 17 (by decide) (dep_of ha 17 (at_7 ho (fun o => o.after.any fun e => e.on == 17 && Region.binds .any e) (by kernel_rfl)))
  have h18 : FnV w (a.tmps.getD 82 undef) (fK k) := h.pv 18 (by decide) (dep_of ha 18 (at_7 ho (fun o => o.after.any fun e => e.on == 18 && Region.binds .any e) (by kernel_rfl)))
  obtain ⟨V, y', hr, hk, hs⟩ := bfn2 h17 h18
  exact wp_bs (n := 2) (t := 38) (parts := #[(0, .tmp 81), (1, .tmp 82)]) (at_7 ho (·.op) (by kernel_rfl)) #[(0, a.tmps.getD 81 undef), (1, a.tmps.getD 82 undef)] (by simp only [List.map_toArray, List.map_cons, List.map_nil]; rfl) hr (h.step sl_7_inj (sl_7_lt hp.n) pv_7_kept 19 (by decide) hk hs _ hd)
theorem s_7_20 (hp : Pre7 k a9 b c A0 W q15 E15 q14 E14) (h : RI 21 sl_7 (PV_7 k a9 b c) A0 W l a w) (ho : ops7[20]? = some o) (ha : (o.after.all fun e => !Region.binds .any e || l.getD e.on false) = true) : o.guard = none ∧ o.wp Tryz.prog a w (fun a' w' => RI 21 sl_7 (PV_7 k a9 b c) A0 W (l.setIfInBounds 20 true) a' w') Q := by
  refine ⟨at_7 ho (·.guard) (by kernel_rfl), ?_⟩
  have hd : o.dst = some (sl_7 20) := at_7 ho (·.dst) (by kernel_rfl)
  exact wp_assignE (.tmp 83) (at_7 ho (·.op) (by kernel_rfl)) _ rfl (h.step sl_7_inj (sl_7_lt hp.n) pv_7_kept 20 (by decide) (Kept.refl _ _) (h.pv 19 (by decide) (dep_of ha 19 (at_7 ho (fun o => o.after.any fun e => e.on == 19 && Region.binds .any e) (by kernel_rfl)))) _ hd)
theorem s_7 (hp : Pre7 k a9 b c A0 W q15 E15 q14 E14) (h : RI 21 sl_7 (PV_7 k a9 b c) A0 W l a w) (i : Nat) (ho : ops7[i]? = some o) (ha : (o.after.all fun e => !Region.binds .any e || l.getD e.on false) = true) : o.guard = none ∧ o.wp Tryz.prog a w (fun a' w' => RI 21 sl_7 (PV_7 k a9 b c) A0 W (l.setIfInBounds i true) a' w') Q := by
  have hi : i < 21 := by have := (Array.getElem?_eq_some_iff.1 ho).1; rw [siz_7] at this; exact this
  match i, hi, ho with
  | 0, _, ho => exact s_7_0 hp h ho ha
  | 1, _, ho => exact s_7_1 hp h ho ha
  | 2, _, ho => exact s_7_2 hp h ho ha
  | 3, _, ho => exact s_7_3 hp h ho ha
  | 4, _, ho => exact s_7_4 hp h ho ha
  | 5, _, ho => exact s_7_5 hp h ho ha
  | 6, _, ho => exact s_7_6 hp h ho ha
  | 7, _, ho => exact s_7_7 hp h ho ha
  | 8, _, ho => exact s_7_8 hp h ho ha
  | 9, _, ho => exact s_7_9 hp h ho ha
  | 10, _, ho => exact s_7_10 hp h ho ha
  | 11, _, ho => exact s_7_11 hp h ho ha
  | 12, _, ho => exact s_7_12 hp h ho ha
  | 13, _, ho => exact s_7_13 hp h ho ha
  | 14, _, ho => exact s_7_14 hp h ho ha
  | 15, _, ho => exact s_7_15 hp h ho ha
  | 16, _, ho => exact s_7_16 hp h ho ha
  | 17, _, ho => exact s_7_17 hp h ho ha
  | 18, _, ho => exact s_7_18 hp h ho ha
  | 19, _, ho => exact s_7_19 hp h ho ha
  | 20, _, ho => exact s_7_20 hp h ho ha
  | i + 21, hi, _ => omega
theorem region7 {id : Nat} {w0 : World} (hp : Pre7 k a9 b c A0 W q15 E15 q14 E14) (hW : w0.drew = W)
    (hend : ∀ (V : Value) (g : Nat → Value) (y : World), Kept (fun _ => False) W y → SlP y (fun _ => True) V (p7 k a9 b c) → Q .normal ⟨(listOf (fun j => if j = 16 then V else if 64 ≤ j ∧ j < 84 then g j else A0.tmps.getD j undef) 0 136).toArray, A0.defers⟩ y) : (Code.region id ops7 true).wp Tryz.prog Q A0 w0 := by
  refine wp_region_inv (by kernel_rfl) (RI 21 sl_7 (PV_7 k a9 b c) A0 W) ?_ (fun l a w h => by rw [siz_7]; exact h.sz) ord_7 (fun l a w h hall => ?_) (fun l a w i o h ho ha => ?_)
  · rw [hW, siz_7]
    refine ⟨by simp, rfl, rfl, Kept.refl _ _, fun j _ => rfl, fun i hi hl => ?_⟩
    exfalso
    simp [Array.getD] at hl
  · have h26 : SlP w (fun _ => True) (a.tmps.getD 16 undef) (p7 k a9 b c) := h.pv 20 (by decide) (hall 20 (by rw [siz_7]; decide))
    have e := arr_of (T := a.tmps) (n := 136) (by rw [h.ts]; exact hp.n) (fun j => if j = 16 then a.tmps.getD 16 undef else if 64 ≤ j ∧ j < 84 then a.tmps.getD j undef else A0.tmps.getD j undef) (fun j hj => by
      by_cases h8 : j = 16
      · rw [if_pos h8, h8]
      rw [if_neg h8]
      by_cases h24 : 64 ≤ j ∧ j < 84
      · rw [if_pos h24]
      rw [if_neg h24]
      exact h.old j (sl_7_ne (by omega)))
    have ea : a = ⟨a.tmps, a.defers⟩ := rfl
    rw [ea, h.df, e]
    exact hend _ _ w h.kp h26
  · obtain ⟨h1, h2⟩ := s_7 hp h i ho ha
    exact ⟨wanted_none h1, h2⟩
end
end Ir
end Go.Proofs.YtcgpdijpppcbiaaGreatDoor
