/- Merged of Ewd. Own work. -/
import Derived.Test.YtcgpdijpppcbiaaDoorQ26
import Derived.Test.YtcgpdijpppcbiaaDoorQ08
import Derived.Test.YtcgpdijpppcbiaaDoorQ13
namespace Go.Proofs.YtcgpdijpppcbiaaDoor
open Go.RowKit
set_option linter.unusedVariables false
set_option linter.unusedSimpArgs false
namespace Ir
open Kc
/-- A region's operations. -/
def regOf : Code → Nat → Option (Array Oper)
  | .region id ops _, n => if id = n then some ops else none
  | .seq a b, n => match regOf a n with | some r => some r | none => regOf b n
  | _, _ => none
noncomputable def ops6 : Array Oper := ((Tryd.f4.body.getD .skip |> (regOf · 6))).getD #[]
theorem ord6 : ((List.range ops6.size).all fun k => ((ops6[k]?).map fun o => o.after.all fun e => !Region.binds .any e || decide (e.on < k)).getD false) = true := by kernel_rfl
theorem at6 {i : Nat} {o : Oper} (ho : ops6[i]? = some o) {β : Type} (f : Oper → β) {x : β} (hx : (ops6[i]?).map f = some x) : f o = x := by rw [ho] at hx; exact Option.some.inj hx
theorem siz6 : ops6.size = 27 := by kernel_rfl
abbrev cstv (n : Nat) : Value := .agg #[.int .i64 26, .int .u64 n, .slice none 0 0]
def sl6 (i : Nat) : Nat := if i = 26 then 8 else 24 + i
theorem sl6_inj (i j : Nat) (hi : i < 27) (hj : j < 27) (h : sl6 i = sl6 j) : i = j := by
  unfold sl6 at h
  split at h <;> split at h <;> omega
theorem sl6_lt {A0 : Act} (hn : A0.tmps.size = 79) (i : Nat) (hi : i < 27) : sl6 i < A0.tmps.size := by
  rw [hn]; unfold sl6; split <;> omega
theorem sl6_ne {j : Nat} (h : j < 8 ∨ (8 < j ∧ j < 24) ∨ 50 ≤ j) (i : Nat) (hi : i < 27) : sl6 i ≠ j := by
  unfold sl6; split <;> omega
def t2 : Sf := .cons 6 0 29 1 .nil 0 0 .nil .nil .nil .nil
def tS (A n : Nat) : Sf := .cons 2 0 26 A .nil 26 n .nil .nil .nil .nil
def t7 (A : Nat) : Sf := t2.wth ((tS A 8).wth .nil)
def t8 (A : Nat) : Sf := .cons 4 0 26 1 .nil 0 0 .nil (t7 A) .nil .nil
def f10 (A : Nat) : Fn := ⟨0, 0, (t8 A).wth .nil⟩
def t18 (en : Sf) : Sf := .cons 3 0 26 1 .nil 0 0 .nil (en.wth .nil) .nil .nil
def t23 (A : Nat) (en : Sf) : Sf := (tS A 9).wth ((t18 en).wth ((tS A 7).wth .nil))
def f24 (A : Nat) (en : Sf) : Fn := ⟨0, 0, t23 A en⟩
def p6 (A : Nat) (en : Sf) : List Fn := [f10 A, f24 A en]
def PV6 (A : Nat) (en : Sf) : Nat → Value → World → Prop
  | 0, v, w => v = cstv 1
  | 1, v, w => v = .agg #[.int .i64 29, .int .u64 (1 : Nat), .slice none 0 0]
  | 2, v, w => StV w v t2
  | 3, v, w => v = .int .u64 A
  | 4, v, w => v = cstv A
  | 5, v, w => v = cstv 8
  | 6, v, w => StV w v (tS A 8)
  | 7, v, w => SlS w (fun _ => True) v (t7 A)
  | 8, v, w => StV w v (t8 A)
  | 9, v, w => SlS w (fun _ => True) v ((t8 A).wth .nil)
  | 10, v, w => FnV w v (f10 A)
  | 11, v, w => v = .int .u64 A
  | 12, v, w => v = cstv A
  | 13, v, w => v = cstv 9
  | 14, v, w => StV w v (tS A 9)
  | 15, v, w => v = cstv 1
  | 16, v, w => StV w v en
  | 17, v, w => SlS w (fun _ => True) v (en.wth .nil)
  | 18, v, w => StV w v (t18 en)
  | 19, v, w => v = .int .u64 A
  | 20, v, w => v = cstv A
  | 21, v, w => v = cstv 7
  | 22, v, w => StV w v (tS A 7)
  | 23, v, w => SlS w (fun _ => True) v (t23 A en)
  | 24, v, w => FnV w v (f24 A en)
  | 25, v, w => SlP w (fun _ => True) v (p6 A en)
  | 26, v, w => SlP w (fun _ => True) v (p6 A en)
  | _, _, _ => True
theorem pv6_kept {A : Nat} {en : Sf} : ∀ (i : Nat) (v : Value) (w w' : World), Kept (fun _ => False) w w' → PV6 A en i v w → PV6 A en i v w'
  | 0, v, w, w', hk, h => by have h : v = cstv 1 := h; exact h
  | 1, v, w, w', hk, h => by have h : v = .agg #[.int .i64 29, .int .u64 (1 : Nat), .slice none 0 0] := h; exact h
  | 2, v, w, w', hk, h => by have h : StV w v t2 := h; exact h.kept hk
  | 3, v, w, w', hk, h => by have h : v = .int .u64 A := h; exact h
  | 4, v, w, w', hk, h => by have h : v = cstv A := h; exact h
  | 5, v, w, w', hk, h => by have h : v = cstv 8 := h; exact h
  | 6, v, w, w', hk, h => by have h : StV w v (tS A 8) := h; exact h.kept hk
  | 7, v, w, w', hk, h => by have h : SlS w (fun _ => True) v (t7 A) := h; exact h.kept hk fun _ _ => id
  | 8, v, w, w', hk, h => by have h : StV w v (t8 A) := h; exact h.kept hk
  | 9, v, w, w', hk, h => by have h : SlS w (fun _ => True) v ((t8 A).wth .nil) := h; exact h.kept hk fun _ _ => id
  | 10, v, w, w', hk, h => by have h : FnV w v (f10 A) := h; exact h.kept hk
  | 11, v, w, w', hk, h => by have h : v = .int .u64 A := h; exact h
  | 12, v, w, w', hk, h => by have h : v = cstv A := h; exact h
  | 13, v, w, w', hk, h => by have h : v = cstv 9 := h; exact h
  | 14, v, w, w', hk, h => by have h : StV w v (tS A 9) := h; exact h.kept hk
  | 15, v, w, w', hk, h => by have h : v = cstv 1 := h; exact h
  | 16, v, w, w', hk, h => by have h : StV w v en := h; exact h.kept hk
  | 17, v, w, w', hk, h => by have h : SlS w (fun _ => True) v (en.wth .nil) := h; exact h.kept hk fun _ _ => id
  | 18, v, w, w', hk, h => by have h : StV w v (t18 en) := h; exact h.kept hk
  | 19, v, w, w', hk, h => by have h : v = .int .u64 A := h; exact h
  | 20, v, w, w', hk, h => by have h : v = cstv A := h; exact h
  | 21, v, w, w', hk, h => by have h : v = cstv 7 := h; exact h
  | 22, v, w, w', hk, h => by have h : StV w v (tS A 7) := h; exact h.kept hk
  | 23, v, w, w', hk, h => by have h : SlS w (fun _ => True) v (t23 A en) := h; exact h.kept hk fun _ _ => id
  | 24, v, w, w', hk, h => by have h : FnV w v (f24 A en) := h; exact h.kept hk
  | 25, v, w, w', hk, h => by have h : SlP w (fun _ => True) v (p6 A en) := h; exact h.kept hk fun _ _ => id
  | 26, v, w, w', hk, h => by have h : SlP w (fun _ => True) v (p6 A en) := h; exact h.kept hk fun _ _ => id
  | _ + 27, _, _, _, _, _ => trivial
structure Pre6 (A : Nat) (en : Sf) (A0 : Act) (W : World) (q : Nat) (E : Array Value) : Prop where
  n : A0.tmps.size = 79
  t1 : A0.tmps.getD 1 undef = .int .u64 A
  hA : A < 18446744073709551616
  t7 : A0.tmps.getD 7 undef = .pointer (some ⟨q, 0, none⟩)
  ld : ∀ y, Kept (fun _ => False) W y → (Instr.loadAt 29 (.pointer (some ⟨q, 0, none⟩))).run Tryd.prog y = .ok (.agg E) y
  en : StV W (.agg E) en
section
variable {A : Nat} {en : Sf} {A0 : Act} {W w : World} {q : Nat} {E : Array Value} {l : Array Bool} {a : Act} {o : Oper} {Q : Exit → Act → World → Prop}
theorem s6_0 (hp : Pre6 A en A0 W q E) (h : RI 27 sl6 (PV6 A en) A0 W l a w) (ho : ops6[0]? = some o) (ha : (o.after.all fun e => !Region.binds .any e || l.getD e.on false) = true) : o.guard = none ∧ o.wp Tryd.prog a w (fun a' w' => RI 27 sl6 (PV6 A en) A0 W (l.setIfInBounds 0 true) a' w') Q := by
  refine ⟨at6 ho (·.guard) (by kernel_rfl), ?_⟩
  have hd : o.dst = some (sl6 0) := at6 ho (·.dst) (by kernel_rfl)
  exact wp_callE1 6 (.const (.int .u64 1)) 22 (at6 ho (·.op) (by kernel_rfl)) (.int .u64 (1 : Nat)) _ rfl (runCst _ _) ((constant_walk 1 w).mono fun e w' ⟨he, hk⟩ => ⟨he, h.step sl6_inj (sl6_lt hp.n) pv6_kept 0 (by decide) hk rfl _ hd⟩)
theorem s6_1 (hp : Pre6 A en A0 W q E) (h : RI 27 sl6 (PV6 A en) A0 W l a w) (ho : ops6[1]? = some o) (ha : (o.after.all fun e => !Region.binds .any e || l.getD e.on false) = true) : o.guard = none ∧ o.wp Tryd.prog a w (fun a' w' => RI 27 sl6 (PV6 A en) A0 W (l.setIfInBounds 1 true) a' w') Q := by
  refine ⟨at6 ho (·.guard) (by kernel_rfl), ?_⟩
  have hd : o.dst = some (sl6 1) := at6 ho (·.dst) (by kernel_rfl)
  exact wp_bld2 25 (.const (.int .i64 29)) (.const (.int .u64 1)) (at6 ho (·.op) (by kernel_rfl)) (.int .i64 29) (.int .u64 (1 : Nat)) rfl rfl _ (bltX _ _) (h.step sl6_inj (sl6_lt hp.n) pv6_kept 1 (by decide) (Kept.refl _ _) rfl _ hd)
theorem s6_2 (hp : Pre6 A en A0 W q E) (h : RI 27 sl6 (PV6 A en) A0 W l a w) (ho : ops6[2]? = some o) (ha : (o.after.all fun e => !Region.binds .any e || l.getD e.on false) = true) : o.guard = none ∧ o.wp Tryd.prog a w (fun a' w' => RI 27 sl6 (PV6 A en) A0 W (l.setIfInBounds 2 true) a' w') Q := by
  refine ⟨at6 ho (·.guard) (by kernel_rfl), ?_⟩
  have hd : o.dst = some (sl6 2) := at6 ho (·.dst) (by kernel_rfl)
  exact wp_bld2 29 (.const (.int .i64 6)) (.tmp 25) (at6 ho (·.op) (by kernel_rfl)) (.int .i64 6) (.agg #[.int .i64 29, .int .u64 (1 : Nat), .slice none 0 0]) rfl (show a.tmps.getD 25 undef = _ from h.pv 1 (by decide) (dep_of ha 1 (at6 ho (fun o => o.after.any fun e => e.on == 1 && Region.binds .any e) (by kernel_rfl)))) _ (bltA _ _ _ _) (h.step sl6_inj (sl6_lt hp.n) pv6_kept 2 (by decide) (Kept.refl _ _) (show StV w _ t2 from ⟨none, 0, 0, none, 0, 0, none, 0, 0, none, 0, 0, rfl, slEn, slEn, slS0, slS0, by decide, by decide⟩) _ hd)
theorem s6_3 (hp : Pre6 A en A0 W q E) (h : RI 27 sl6 (PV6 A en) A0 W l a w) (ho : ops6[3]? = some o) (ha : (o.after.all fun e => !Region.binds .any e || l.getD e.on false) = true) : o.guard = none ∧ o.wp Tryd.prog a w (fun a' w' => RI 27 sl6 (PV6 A en) A0 W (l.setIfInBounds 3 true) a' w') Q := by
  refine ⟨at6 ho (·.guard) (by kernel_rfl), ?_⟩
  have hd : o.dst = some (sl6 3) := at6 ho (·.dst) (by kernel_rfl)
  exact wp_moveE (.tmp 1) (at6 ho (·.op) (by kernel_rfl)) (.int .u64 A) (by show a.tmps.getD 1 undef = _; rw [h.old 1 (sl6_ne (by decide))]; exact hp.t1) (h.step sl6_inj (sl6_lt hp.n) pv6_kept 3 (by decide) (Kept.refl _ _) rfl _ hd)
theorem s6_4 (hp : Pre6 A en A0 W q E) (h : RI 27 sl6 (PV6 A en) A0 W l a w) (ho : ops6[4]? = some o) (ha : (o.after.all fun e => !Region.binds .any e || l.getD e.on false) = true) : o.guard = none ∧ o.wp Tryd.prog a w (fun a' w' => RI 27 sl6 (PV6 A en) A0 W (l.setIfInBounds 4 true) a' w') Q := by
  refine ⟨at6 ho (·.guard) (by kernel_rfl), ?_⟩
  have hd : o.dst = some (sl6 4) := at6 ho (·.dst) (by kernel_rfl)
  exact wp_callE1 6 (.tmp 27) 22 (at6 ho (·.op) (by kernel_rfl)) (.int .u64 (A : Nat)) _ (show a.tmps.getD 27 undef = _ from h.pv 3 (by decide) (dep_of ha 3 (at6 ho (fun o => o.after.any fun e => e.on == 3 && Region.binds .any e) (by kernel_rfl)))) (runCst _ _) ((constant_walk A w).mono fun e w' ⟨he, hk⟩ => ⟨he, h.step sl6_inj (sl6_lt hp.n) pv6_kept 4 (by decide) hk rfl _ hd⟩)
theorem s6_5 (hp : Pre6 A en A0 W q E) (h : RI 27 sl6 (PV6 A en) A0 W l a w) (ho : ops6[5]? = some o) (ha : (o.after.all fun e => !Region.binds .any e || l.getD e.on false) = true) : o.guard = none ∧ o.wp Tryd.prog a w (fun a' w' => RI 27 sl6 (PV6 A en) A0 W (l.setIfInBounds 5 true) a' w') Q := by
  refine ⟨at6 ho (·.guard) (by kernel_rfl), ?_⟩
  have hd : o.dst = some (sl6 5) := at6 ho (·.dst) (by kernel_rfl)
  exact wp_callE1 6 (.const (.int .u64 8)) 22 (at6 ho (·.op) (by kernel_rfl)) (.int .u64 (8 : Nat)) _ rfl (runCst _ _) ((constant_walk 8 w).mono fun e w' ⟨he, hk⟩ => ⟨he, h.step sl6_inj (sl6_lt hp.n) pv6_kept 5 (by decide) hk rfl _ hd⟩)
theorem s6_6 (hp : Pre6 A en A0 W q E) (h : RI 27 sl6 (PV6 A en) A0 W l a w) (ho : ops6[6]? = some o) (ha : (o.after.all fun e => !Region.binds .any e || l.getD e.on false) = true) : o.guard = none ∧ o.wp Tryd.prog a w (fun a' w' => RI 27 sl6 (PV6 A en) A0 W (l.setIfInBounds 6 true) a' w') Q := by
  refine ⟨at6 ho (·.guard) (by kernel_rfl), ?_⟩
  have hd : o.dst = some (sl6 6) := at6 ho (·.dst) (by kernel_rfl)
  exact wp_bld3 29 (.const (.int .i64 2)) (.tmp 28) (.tmp 29) (at6 ho (·.op) (by kernel_rfl)) (.int .i64 2) (cstv A) (cstv 8) rfl (show a.tmps.getD 28 undef = _ from h.pv 4 (by decide) (dep_of ha 4 (at6 ho (fun o => o.after.any fun e => e.on == 4 && Region.binds .any e) (by kernel_rfl)))) (show a.tmps.getD 29 undef = _ from h.pv 5 (by decide) (dep_of ha 5 (at6 ho (fun o => o.after.any fun e => e.on == 5 && Region.binds .any e) (by kernel_rfl)))) _ (bltAB _ _ _ _ _ _ _) (h.step sl6_inj (sl6_lt hp.n) pv6_kept 6 (by decide) (Kept.refl _ _) (show StV w _ (tS A 8) from ⟨none, 0, 0, none, 0, 0, none, 0, 0, none, 0, 0, rfl, slEn, slEn, slS0, slS0, hp.hA, by decide⟩) _ hd)
theorem s6_7 (hp : Pre6 A en A0 W q E) (h : RI 27 sl6 (PV6 A en) A0 W l a w) (ho : ops6[7]? = some o) (ha : (o.after.all fun e => !Region.binds .any e || l.getD e.on false) = true) : o.guard = none ∧ o.wp Tryd.prog a w (fun a' w' => RI 27 sl6 (PV6 A en) A0 W (l.setIfInBounds 7 true) a' w') Q := by
  refine ⟨at6 ho (·.guard) (by kernel_rfl), ?_⟩
  have hd : o.dst = some (sl6 7) := at6 ho (·.dst) (by kernel_rfl)
  have h2 : StV w (a.tmps.getD 26 undef) t2 := h.pv 2 (by decide) (dep_of ha 2 (at6 ho (fun o => o.after.any fun e => e.on == 2 && Region.binds .any e) (by kernel_rfl)))
  have h6 : StV w (a.tmps.getD 30 undef) (tS A 8) := h.pv 6 (by decide) (dep_of ha 6 (at6 ho (fun o => o.after.any fun e => e.on == 6 && Region.binds .any e) (by kernel_rfl)))
  obtain ⟨V, y', hr, hk, hs⟩ := bst2 h2 h6
  exact wp_bs2 (t := 27) (x := .tmp 26) (x' := .tmp 30) (at6 ho (·.op) (by kernel_rfl)) _ rfl _ rfl hr (h.step sl6_inj (sl6_lt hp.n) pv6_kept 7 (by decide) hk hs _ hd)
theorem s6_8 (hp : Pre6 A en A0 W q E) (h : RI 27 sl6 (PV6 A en) A0 W l a w) (ho : ops6[8]? = some o) (ha : (o.after.all fun e => !Region.binds .any e || l.getD e.on false) = true) : o.guard = none ∧ o.wp Tryd.prog a w (fun a' w' => RI 27 sl6 (PV6 A en) A0 W (l.setIfInBounds 8 true) a' w') Q := by
  refine ⟨at6 ho (·.guard) (by kernel_rfl), ?_⟩
  have hd : o.dst = some (sl6 8) := at6 ho (·.dst) (by kernel_rfl)
  have hs : SlS w (fun _ => True) (a.tmps.getD 31 undef) (t7 A) := h.pv 7 (by decide) (dep_of ha 7 (at6 ho (fun o => o.after.any fun e => e.on == 7 && Region.binds .any e) (by kernel_rfl)))
  obtain ⟨sa, sc, e, _⟩ := id hs
  rw [e] at hs
  exact wp_bld3 29 (.const (.int .i64 4)) (.tmp 24) (.tmp 31) (at6 ho (·.op) (by kernel_rfl)) (.int .i64 4) (cstv 1) (.slice sa (t7 A).len sc) rfl (show a.tmps.getD 24 undef = _ from h.pv 0 (by decide) (dep_of ha 0 (at6 ho (fun o => o.after.any fun e => e.on == 0 && Region.binds .any e) (by kernel_rfl)))) e _ (bltAC _ _ _ _ _ _ _) (h.step sl6_inj (sl6_lt hp.n) pv6_kept 8 (by decide) (Kept.refl _ _) (show StV w _ (t8 A) from ⟨none, 0, 0, none, 0, 0, sa, _, sc, none, 0, 0, rfl, slEn, slEn, hs, slS0, by decide, by decide⟩) _ hd)
theorem s6_9 (hp : Pre6 A en A0 W q E) (h : RI 27 sl6 (PV6 A en) A0 W l a w) (ho : ops6[9]? = some o) (ha : (o.after.all fun e => !Region.binds .any e || l.getD e.on false) = true) : o.guard = none ∧ o.wp Tryd.prog a w (fun a' w' => RI 27 sl6 (PV6 A en) A0 W (l.setIfInBounds 9 true) a' w') Q := by
  refine ⟨at6 ho (·.guard) (by kernel_rfl), ?_⟩
  have hd : o.dst = some (sl6 9) := at6 ho (·.dst) (by kernel_rfl)
  have h8 : StV w (a.tmps.getD 32 undef) (t8 A) := h.pv 8 (by decide) (dep_of ha 8 (at6 ho (fun o => o.after.any fun e => e.on == 8 && Region.binds .any e) (by kernel_rfl)))
  obtain ⟨V, y', hr, hk, hs⟩ := bst1 h8
  exact wp_bs1 (t := 27) (x := .tmp 32) (at6 ho (·.op) (by kernel_rfl)) _ rfl hr (h.step sl6_inj (sl6_lt hp.n) pv6_kept 9 (by decide) hk hs _ hd)
theorem s6_10 (hp : Pre6 A en A0 W q E) (h : RI 27 sl6 (PV6 A en) A0 W l a w) (ho : ops6[10]? = some o) (ha : (o.after.all fun e => !Region.binds .any e || l.getD e.on false) = true) : o.guard = none ∧ o.wp Tryd.prog a w (fun a' w' => RI 27 sl6 (PV6 A en) A0 W (l.setIfInBounds 10 true) a' w') Q := by
  refine ⟨at6 ho (·.guard) (by kernel_rfl), ?_⟩
  have hd : o.dst = some (sl6 10) := at6 ho (·.dst) (by kernel_rfl)
  have hs : SlS w (fun _ => True) (a.tmps.getD 33 undef) ((t8 A).wth .nil) := h.pv 9 (by decide) (dep_of ha 9 (at6 ho (fun o => o.after.any fun e => e.on == 9 && Region.binds .any e) (by kernel_rfl)))
  obtain ⟨sa, sc, e, _⟩ := id hs
  rw [e] at hs
  exact wp_bld1 32 (.tmp 33) (at6 ho (·.op) (by kernel_rfl)) (.slice sa ((t8 A).wth .nil).len sc) e _ (bltF _ _ _) (h.step sl6_inj (sl6_lt hp.n) pv6_kept 10 (by decide) (Kept.refl _ _) (show FnV w _ (f10 A) from ⟨sa, _, sc, rfl, hs⟩) _ hd)
theorem s6_11 (hp : Pre6 A en A0 W q E) (h : RI 27 sl6 (PV6 A en) A0 W l a w) (ho : ops6[11]? = some o) (ha : (o.after.all fun e => !Region.binds .any e || l.getD e.on false) = true) : o.guard = none ∧ o.wp Tryd.prog a w (fun a' w' => RI 27 sl6 (PV6 A en) A0 W (l.setIfInBounds 11 true) a' w') Q := by
  refine ⟨at6 ho (·.guard) (by kernel_rfl), ?_⟩
  have hd : o.dst = some (sl6 11) := at6 ho (·.dst) (by kernel_rfl)
  exact wp_moveE (.tmp 1) (at6 ho (·.op) (by kernel_rfl)) (.int .u64 A) (by show a.tmps.getD 1 undef = _; rw [h.old 1 (sl6_ne (by decide))]; exact hp.t1) (h.step sl6_inj (sl6_lt hp.n) pv6_kept 11 (by decide) (Kept.refl _ _) rfl _ hd)
theorem s6_12 (hp : Pre6 A en A0 W q E) (h : RI 27 sl6 (PV6 A en) A0 W l a w) (ho : ops6[12]? = some o) (ha : (o.after.all fun e => !Region.binds .any e || l.getD e.on false) = true) : o.guard = none ∧ o.wp Tryd.prog a w (fun a' w' => RI 27 sl6 (PV6 A en) A0 W (l.setIfInBounds 12 true) a' w') Q := by
  refine ⟨at6 ho (·.guard) (by kernel_rfl), ?_⟩
  have hd : o.dst = some (sl6 12) := at6 ho (·.dst) (by kernel_rfl)
  exact wp_callE1 6 (.tmp 35) 22 (at6 ho (·.op) (by kernel_rfl)) (.int .u64 (A : Nat)) _ (show a.tmps.getD 35 undef = _ from h.pv 11 (by decide) (dep_of ha 11 (at6 ho (fun o => o.after.any fun e => e.on == 11 && Region.binds .any e) (by kernel_rfl)))) (runCst _ _) ((constant_walk A w).mono fun e w' ⟨he, hk⟩ => ⟨he, h.step sl6_inj (sl6_lt hp.n) pv6_kept 12 (by decide) hk rfl _ hd⟩)
theorem s6_13 (hp : Pre6 A en A0 W q E) (h : RI 27 sl6 (PV6 A en) A0 W l a w) (ho : ops6[13]? = some o) (ha : (o.after.all fun e => !Region.binds .any e || l.getD e.on false) = true) : o.guard = none ∧ o.wp Tryd.prog a w (fun a' w' => RI 27 sl6 (PV6 A en) A0 W (l.setIfInBounds 13 true) a' w') Q := by
  refine ⟨at6 ho (·.guard) (by kernel_rfl), ?_⟩
  have hd : o.dst = some (sl6 13) := at6 ho (·.dst) (by kernel_rfl)
  exact wp_callE1 6 (.const (.int .u64 9)) 22 (at6 ho (·.op) (by kernel_rfl)) (.int .u64 (9 : Nat)) _ rfl (runCst _ _) ((constant_walk 9 w).mono fun e w' ⟨he, hk⟩ => ⟨he, h.step sl6_inj (sl6_lt hp.n) pv6_kept 13 (by decide) hk rfl _ hd⟩)
theorem s6_14 (hp : Pre6 A en A0 W q E) (h : RI 27 sl6 (PV6 A en) A0 W l a w) (ho : ops6[14]? = some o) (ha : (o.after.all fun e => !Region.binds .any e || l.getD e.on false) = true) : o.guard = none ∧ o.wp Tryd.prog a w (fun a' w' => RI 27 sl6 (PV6 A en) A0 W (l.setIfInBounds 14 true) a' w') Q := by
  refine ⟨at6 ho (·.guard) (by kernel_rfl), ?_⟩
  have hd : o.dst = some (sl6 14) := at6 ho (·.dst) (by kernel_rfl)
  exact wp_bld3 29 (.const (.int .i64 2)) (.tmp 36) (.tmp 37) (at6 ho (·.op) (by kernel_rfl)) (.int .i64 2) (cstv A) (cstv 9) rfl (show a.tmps.getD 36 undef = _ from h.pv 12 (by decide) (dep_of ha 12 (at6 ho (fun o => o.after.any fun e => e.on == 12 && Region.binds .any e) (by kernel_rfl)))) (show a.tmps.getD 37 undef = _ from h.pv 13 (by decide) (dep_of ha 13 (at6 ho (fun o => o.after.any fun e => e.on == 13 && Region.binds .any e) (by kernel_rfl)))) _ (bltAB _ _ _ _ _ _ _) (h.step sl6_inj (sl6_lt hp.n) pv6_kept 14 (by decide) (Kept.refl _ _) (show StV w _ (tS A 9) from ⟨none, 0, 0, none, 0, 0, none, 0, 0, none, 0, 0, rfl, slEn, slEn, slS0, slS0, hp.hA, by decide⟩) _ hd)
theorem s6_15 (hp : Pre6 A en A0 W q E) (h : RI 27 sl6 (PV6 A en) A0 W l a w) (ho : ops6[15]? = some o) (ha : (o.after.all fun e => !Region.binds .any e || l.getD e.on false) = true) : o.guard = none ∧ o.wp Tryd.prog a w (fun a' w' => RI 27 sl6 (PV6 A en) A0 W (l.setIfInBounds 15 true) a' w') Q := by
  refine ⟨at6 ho (·.guard) (by kernel_rfl), ?_⟩
  have hd : o.dst = some (sl6 15) := at6 ho (·.dst) (by kernel_rfl)
  exact wp_callE1 6 (.const (.int .u64 1)) 22 (at6 ho (·.op) (by kernel_rfl)) (.int .u64 (1 : Nat)) _ rfl (runCst _ _) ((constant_walk 1 w).mono fun e w' ⟨he, hk⟩ => ⟨he, h.step sl6_inj (sl6_lt hp.n) pv6_kept 15 (by decide) hk rfl _ hd⟩)
theorem s6_16 (hp : Pre6 A en A0 W q E) (h : RI 27 sl6 (PV6 A en) A0 W l a w) (ho : ops6[16]? = some o) (ha : (o.after.all fun e => !Region.binds .any e || l.getD e.on false) = true) : o.guard = none ∧ o.wp Tryd.prog a w (fun a' w' => RI 27 sl6 (PV6 A en) A0 W (l.setIfInBounds 16 true) a' w') Q := by
  refine ⟨at6 ho (·.guard) (by kernel_rfl), ?_⟩
  have hd : o.dst = some (sl6 16) := at6 ho (·.dst) (by kernel_rfl)
  exact wp_loadE (P := Tryd.prog) (w := w) 29 (.tmp 7) (at6 ho (·.op) (by kernel_rfl)) (.pointer (some ⟨q, 0, none⟩)) (.agg E) (by show a.tmps.getD 7 undef = _; rw [h.old 7 (sl6_ne (by decide))]; exact hp.t7) (hp.ld w h.kp) (h.step sl6_inj (sl6_lt hp.n) pv6_kept 16 (by decide) (Kept.refl _ _) (show StV w _ en from hp.en.kept h.kp) _ hd)
theorem s6_17 (hp : Pre6 A en A0 W q E) (h : RI 27 sl6 (PV6 A en) A0 W l a w) (ho : ops6[17]? = some o) (ha : (o.after.all fun e => !Region.binds .any e || l.getD e.on false) = true) : o.guard = none ∧ o.wp Tryd.prog a w (fun a' w' => RI 27 sl6 (PV6 A en) A0 W (l.setIfInBounds 17 true) a' w') Q := by
  refine ⟨at6 ho (·.guard) (by kernel_rfl), ?_⟩
  have hd : o.dst = some (sl6 17) := at6 ho (·.dst) (by kernel_rfl)
  have h16 : StV w (a.tmps.getD 40 undef) en := h.pv 16 (by decide) (dep_of ha 16 (at6 ho (fun o => o.after.any fun e => e.on == 16 && Region.binds .any e) (by kernel_rfl)))
  obtain ⟨V, y', hr, hk, hs⟩ := bst1 h16
  exact wp_bs1 (t := 27) (x := .tmp 40) (at6 ho (·.op) (by kernel_rfl)) _ rfl hr (h.step sl6_inj (sl6_lt hp.n) pv6_kept 17 (by decide) hk hs _ hd)
theorem s6_18 (hp : Pre6 A en A0 W q E) (h : RI 27 sl6 (PV6 A en) A0 W l a w) (ho : ops6[18]? = some o) (ha : (o.after.all fun e => !Region.binds .any e || l.getD e.on false) = true) : o.guard = none ∧ o.wp Tryd.prog a w (fun a' w' => RI 27 sl6 (PV6 A en) A0 W (l.setIfInBounds 18 true) a' w') Q := by
  refine ⟨at6 ho (·.guard) (by kernel_rfl), ?_⟩
  have hd : o.dst = some (sl6 18) := at6 ho (·.dst) (by kernel_rfl)
  have hs : SlS w (fun _ => True) (a.tmps.getD 41 undef) (en.wth .nil) := h.pv 17 (by decide) (dep_of ha 17 (at6 ho (fun o => o.after.any fun e => e.on == 17 && Region.binds .any e) (by kernel_rfl)))
  obtain ⟨sa, sc, e, _⟩ := id hs
  rw [e] at hs
  exact wp_bld3 29 (.const (.int .i64 3)) (.tmp 39) (.tmp 41) (at6 ho (·.op) (by kernel_rfl)) (.int .i64 3) (cstv 1) (.slice sa (en.wth .nil).len sc) rfl (show a.tmps.getD 39 undef = _ from h.pv 15 (by decide) (dep_of ha 15 (at6 ho (fun o => o.after.any fun e => e.on == 15 && Region.binds .any e) (by kernel_rfl)))) e _ (bltAC _ _ _ _ _ _ _) (h.step sl6_inj (sl6_lt hp.n) pv6_kept 18 (by decide) (Kept.refl _ _) (show StV w _ (t18 en) from ⟨none, 0, 0, none, 0, 0, sa, _, sc, none, 0, 0, rfl, slEn, slEn, hs, slS0, by decide, by decide⟩) _ hd)
theorem s6_19 (hp : Pre6 A en A0 W q E) (h : RI 27 sl6 (PV6 A en) A0 W l a w) (ho : ops6[19]? = some o) (ha : (o.after.all fun e => !Region.binds .any e || l.getD e.on false) = true) : o.guard = none ∧ o.wp Tryd.prog a w (fun a' w' => RI 27 sl6 (PV6 A en) A0 W (l.setIfInBounds 19 true) a' w') Q := by
  refine ⟨at6 ho (·.guard) (by kernel_rfl), ?_⟩
  have hd : o.dst = some (sl6 19) := at6 ho (·.dst) (by kernel_rfl)
  exact wp_moveE (.tmp 1) (at6 ho (·.op) (by kernel_rfl)) (.int .u64 A) (by show a.tmps.getD 1 undef = _; rw [h.old 1 (sl6_ne (by decide))]; exact hp.t1) (h.step sl6_inj (sl6_lt hp.n) pv6_kept 19 (by decide) (Kept.refl _ _) rfl _ hd)
theorem s6_20 (hp : Pre6 A en A0 W q E) (h : RI 27 sl6 (PV6 A en) A0 W l a w) (ho : ops6[20]? = some o) (ha : (o.after.all fun e => !Region.binds .any e || l.getD e.on false) = true) : o.guard = none ∧ o.wp Tryd.prog a w (fun a' w' => RI 27 sl6 (PV6 A en) A0 W (l.setIfInBounds 20 true) a' w') Q := by
  refine ⟨at6 ho (·.guard) (by kernel_rfl), ?_⟩
  have hd : o.dst = some (sl6 20) := at6 ho (·.dst) (by kernel_rfl)
  exact wp_callE1 6 (.tmp 43) 22 (at6 ho (·.op) (by kernel_rfl)) (.int .u64 (A : Nat)) _ (show a.tmps.getD 43 undef = _ from h.pv 19 (by decide) (dep_of ha 19 (at6 ho (fun o => o.after.any fun e => e.on == 19 && Region.binds .any e) (by kernel_rfl)))) (runCst _ _) ((constant_walk A w).mono fun e w' ⟨he, hk⟩ => ⟨he, h.step sl6_inj (sl6_lt hp.n) pv6_kept 20 (by decide) hk rfl _ hd⟩)
theorem s6_21 (hp : Pre6 A en A0 W q E) (h : RI 27 sl6 (PV6 A en) A0 W l a w) (ho : ops6[21]? = some o) (ha : (o.after.all fun e => !Region.binds .any e || l.getD e.on false) = true) : o.guard = none ∧ o.wp Tryd.prog a w (fun a' w' => RI 27 sl6 (PV6 A en) A0 W (l.setIfInBounds 21 true) a' w') Q := by
  refine ⟨at6 ho (·.guard) (by kernel_rfl), ?_⟩
  have hd : o.dst = some (sl6 21) := at6 ho (·.dst) (by kernel_rfl)
  exact wp_callE1 6 (.const (.int .u64 7)) 22 (at6 ho (·.op) (by kernel_rfl)) (.int .u64 (7 : Nat)) _ rfl (runCst _ _) ((constant_walk 7 w).mono fun e w' ⟨he, hk⟩ => ⟨he, h.step sl6_inj (sl6_lt hp.n) pv6_kept 21 (by decide) hk rfl _ hd⟩)
theorem s6_22 (hp : Pre6 A en A0 W q E) (h : RI 27 sl6 (PV6 A en) A0 W l a w) (ho : ops6[22]? = some o) (ha : (o.after.all fun e => !Region.binds .any e || l.getD e.on false) = true) : o.guard = none ∧ o.wp Tryd.prog a w (fun a' w' => RI 27 sl6 (PV6 A en) A0 W (l.setIfInBounds 22 true) a' w') Q := by
  refine ⟨at6 ho (·.guard) (by kernel_rfl), ?_⟩
  have hd : o.dst = some (sl6 22) := at6 ho (·.dst) (by kernel_rfl)
  exact wp_bld3 29 (.const (.int .i64 2)) (.tmp 44) (.tmp 45) (at6 ho (·.op) (by kernel_rfl)) (.int .i64 2) (cstv A) (cstv 7) rfl (show a.tmps.getD 44 undef = _ from h.pv 20 (by decide) (dep_of ha 20 (at6 ho (fun o => o.after.any fun e => e.on == 20 && Region.binds .any e) (by kernel_rfl)))) (show a.tmps.getD 45 undef = _ from h.pv 21 (by decide) (dep_of ha 21 (at6 ho (fun o => o.after.any fun e => e.on == 21 && Region.binds .any e) (by kernel_rfl)))) _ (bltAB _ _ _ _ _ _ _) (h.step sl6_inj (sl6_lt hp.n) pv6_kept 22 (by decide) (Kept.refl _ _) (show StV w _ (tS A 7) from ⟨none, 0, 0, none, 0, 0, none, 0, 0, none, 0, 0, rfl, slEn, slEn, slS0, slS0, hp.hA, by decide⟩) _ hd)
theorem s6_23 (hp : Pre6 A en A0 W q E) (h : RI 27 sl6 (PV6 A en) A0 W l a w) (ho : ops6[23]? = some o) (ha : (o.after.all fun e => !Region.binds .any e || l.getD e.on false) = true) : o.guard = none ∧ o.wp Tryd.prog a w (fun a' w' => RI 27 sl6 (PV6 A en) A0 W (l.setIfInBounds 23 true) a' w') Q := by
  refine ⟨at6 ho (·.guard) (by kernel_rfl), ?_⟩
  have hd : o.dst = some (sl6 23) := at6 ho (·.dst) (by kernel_rfl)
  have h14 : StV w (a.tmps.getD 38 undef) (tS A 9) := h.pv 14 (by decide) (dep_of ha 14 (at6 ho (fun o => o.after.any fun e => e.on == 14 && Region.binds .any e) (by kernel_rfl)))
  have h18 : StV w (a.tmps.getD 42 undef) (t18 en) := h.pv 18 (by decide) (dep_of ha 18 (at6 ho (fun o => o.after.any fun e => e.on == 18 && Region.binds .any e) (by kernel_rfl)))
  have h22 : StV w (a.tmps.getD 46 undef) (tS A 7) := h.pv 22 (by decide) (dep_of ha 22 (at6 ho (fun o => o.after.any fun e => e.on == 22 && Region.binds .any e) (by kernel_rfl)))
  obtain ⟨V, y', hr, hk, hs⟩ := bst3 h14 h18 h22
  exact wp_bs3 (t := 27) (x := .tmp 38) (x' := .tmp 42) (x'' := .tmp 46) (at6 ho (·.op) (by kernel_rfl)) _ rfl _ rfl _ rfl hr (h.step sl6_inj (sl6_lt hp.n) pv6_kept 23 (by decide) hk hs _ hd)
theorem s6_24 (hp : Pre6 A en A0 W q E) (h : RI 27 sl6 (PV6 A en) A0 W l a w) (ho : ops6[24]? = some o) (ha : (o.after.all fun e => !Region.binds .any e || l.getD e.on false) = true) : o.guard = none ∧ o.wp Tryd.prog a w (fun a' w' => RI 27 sl6 (PV6 A en) A0 W (l.setIfInBounds 24 true) a' w') Q := by
  refine ⟨at6 ho (·.guard) (by kernel_rfl), ?_⟩
  have hd : o.dst = some (sl6 24) := at6 ho (·.dst) (by kernel_rfl)
  have hs : SlS w (fun _ => True) (a.tmps.getD 47 undef) (t23 A en) := h.pv 23 (by decide) (dep_of ha 23 (at6 ho (fun o => o.after.any fun e => e.on == 23 && Region.binds .any e) (by kernel_rfl)))
  obtain ⟨sa, sc, e, _⟩ := id hs
  rw [e] at hs
  exact wp_bld1 32 (.tmp 47) (at6 ho (·.op) (by kernel_rfl)) (.slice sa (t23 A en).len sc) e _ (bltF _ _ _) (h.step sl6_inj (sl6_lt hp.n) pv6_kept 24 (by decide) (Kept.refl _ _) (show FnV w _ (f24 A en) from ⟨sa, _, sc, rfl, hs⟩) _ hd)
theorem s6_25 (hp : Pre6 A en A0 W q E) (h : RI 27 sl6 (PV6 A en) A0 W l a w) (ho : ops6[25]? = some o) (ha : (o.after.all fun e => !Region.binds .any e || l.getD e.on false) = true) : o.guard = none ∧ o.wp Tryd.prog a w (fun a' w' => RI 27 sl6 (PV6 A en) A0 W (l.setIfInBounds 25 true) a' w') Q := by
  refine ⟨at6 ho (·.guard) (by kernel_rfl), ?_⟩
  have hd : o.dst = some (sl6 25) := at6 ho (·.dst) (by kernel_rfl)
  have h10 : FnV w (a.tmps.getD 34 undef) (f10 A) := h.pv 10 (by decide) (dep_of ha 10 (at6 ho (fun o => o.after.any fun e => e.on == 10 && Region.binds .any e) (by kernel_rfl)))
  have h24 : FnV w (a.tmps.getD 48 undef) (f24 A en) := h.pv 24 (by decide) (dep_of ha 24 (at6 ho (fun o => o.after.any fun e => e.on == 24 && Region.binds .any e) (by kernel_rfl)))
  obtain ⟨V, y', hr, hk, hs⟩ := bfn2 h10 h24
  exact wp_bs2 (t := 33) (x := .tmp 34) (x' := .tmp 48) (at6 ho (·.op) (by kernel_rfl)) _ rfl _ rfl hr (h.step sl6_inj (sl6_lt hp.n) pv6_kept 25 (by decide) hk hs _ hd)
theorem s6_26 (hp : Pre6 A en A0 W q E) (h : RI 27 sl6 (PV6 A en) A0 W l a w) (ho : ops6[26]? = some o) (ha : (o.after.all fun e => !Region.binds .any e || l.getD e.on false) = true) : o.guard = none ∧ o.wp Tryd.prog a w (fun a' w' => RI 27 sl6 (PV6 A en) A0 W (l.setIfInBounds 26 true) a' w') Q := by
  refine ⟨at6 ho (·.guard) (by kernel_rfl), ?_⟩
  have hd : o.dst = some (sl6 26) := at6 ho (·.dst) (by kernel_rfl)
  exact wp_assignE (.tmp 49) (at6 ho (·.op) (by kernel_rfl)) _ rfl (h.step sl6_inj (sl6_lt hp.n) pv6_kept 26 (by decide) (Kept.refl _ _) (h.pv 25 (by decide) (dep_of ha 25 (at6 ho (fun o => o.after.any fun e => e.on == 25 && Region.binds .any e) (by kernel_rfl)))) _ hd)
theorem s6 (hp : Pre6 A en A0 W q E) (h : RI 27 sl6 (PV6 A en) A0 W l a w) (i : Nat) (ho : ops6[i]? = some o) (ha : (o.after.all fun e => !Region.binds .any e || l.getD e.on false) = true) : o.guard = none ∧ o.wp Tryd.prog a w (fun a' w' => RI 27 sl6 (PV6 A en) A0 W (l.setIfInBounds i true) a' w') Q := by
  have hi : i < 27 := by have := (Array.getElem?_eq_some_iff.1 ho).1; rw [siz6] at this; exact this
  match i, hi, ho with
  | 0, _, ho => exact s6_0 hp h ho ha
  | 1, _, ho => exact s6_1 hp h ho ha
  | 2, _, ho => exact s6_2 hp h ho ha
  | 3, _, ho => exact s6_3 hp h ho ha
  | 4, _, ho => exact s6_4 hp h ho ha
  | 5, _, ho => exact s6_5 hp h ho ha
  | 6, _, ho => exact s6_6 hp h ho ha
  | 7, _, ho => exact s6_7 hp h ho ha
  | 8, _, ho => exact s6_8 hp h ho ha
  | 9, _, ho => exact s6_9 hp h ho ha
  | 10, _, ho => exact s6_10 hp h ho ha
  | 11, _, ho => exact s6_11 hp h ho ha
  | 12, _, ho => exact s6_12 hp h ho ha
  | 13, _, ho => exact s6_13 hp h ho ha
  | 14, _, ho => exact s6_14 hp h ho ha
  | 15, _, ho => exact s6_15 hp h ho ha
  | 16, _, ho => exact s6_16 hp h ho ha
  | 17, _, ho => exact s6_17 hp h ho ha
  | 18, _, ho => exact s6_18 hp h ho ha
  | 19, _, ho => exact s6_19 hp h ho ha
  | 20, _, ho => exact s6_20 hp h ho ha
  | 21, _, ho => exact s6_21 hp h ho ha
  | 22, _, ho => exact s6_22 hp h ho ha
  | 23, _, ho => exact s6_23 hp h ho ha
  | 24, _, ho => exact s6_24 hp h ho ha
  | 25, _, ho => exact s6_25 hp h ho ha
  | 26, _, ho => exact s6_26 hp h ho ha
  | i + 27, hi, _ => omega
theorem region6 {id : Nat} {w0 : World} (hp : Pre6 A en A0 W q E) (hW : w0.drew = W)
    (hend : ∀ (V : Value) (g : Nat → Value) (y : World), Kept (fun _ => False) W y → SlP y (fun _ => True) V (p6 A en) → Q .normal ⟨(listOf (fun j => if j = 8 then V else if 24 ≤ j ∧ j < 50 then g j else A0.tmps.getD j undef) 0 79).toArray, A0.defers⟩ y) : (Code.region id ops6 true).wp Tryd.prog Q A0 w0 := by
  refine wp_region_inv (by kernel_rfl) (RI 27 sl6 (PV6 A en) A0 W) ?_ (fun l a w h => by rw [siz6]; exact h.sz) ord6 (fun l a w h hall => ?_) (fun l a w i o h ho ha => ?_)
  · rw [hW, siz6]
    refine ⟨by simp, rfl, rfl, Kept.refl _ _, fun j _ => rfl, fun i hi hl => ?_⟩
    exfalso
    simp [Array.getD] at hl
  · have h26 : SlP w (fun _ => True) (a.tmps.getD 8 undef) (p6 A en) := h.pv 26 (by decide) (hall 26 (by rw [siz6]; decide))
    have e := arr_of (T := a.tmps) (n := 79) (by rw [h.ts]; exact hp.n) (fun j => if j = 8 then a.tmps.getD 8 undef else if 24 ≤ j ∧ j < 50 then a.tmps.getD j undef else A0.tmps.getD j undef) (fun j hj => by
      by_cases h8 : j = 8
      · rw [if_pos h8, h8]
      rw [if_neg h8]
      by_cases h24 : 24 ≤ j ∧ j < 50
      · rw [if_pos h24]
      rw [if_neg h24]
      exact h.old j (sl6_ne (by omega)))
    have ea : a = ⟨a.tmps, a.defers⟩ := rfl
    rw [ea, h.df, e]
    exact hend _ _ w h.kp h26
  · obtain ⟨h1, h2⟩ := s6 hp h i ho ha
    exact ⟨wanted_none h1, h2⟩
end
end Ir
end Go.Proofs.YtcgpdijpppcbiaaDoor
