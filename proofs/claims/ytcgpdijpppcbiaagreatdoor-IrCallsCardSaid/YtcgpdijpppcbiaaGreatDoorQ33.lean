/- Merged of Exe. Own work. -/
import Derived.Test.YtcgpdijpppcbiaaGreatDoorQ31
import Derived.Test.YtcgpdijpppcbiaaGreatDoorQ32
namespace Go.Proofs.YtcgpdijpppcbiaaGreatDoor
open Go.RowKit
set_option linter.unusedVariables false
set_option linter.unusedSimpArgs false
section
variable {P : Program} {o : Oper} {a : Act} {w : World} {K : Act → World → Prop} {Q : Exit → Act → World → Prop}
theorem wp_appE (x x2 : Operand) (t : TypeId) (ho : o.op = .call { callee := .builtin .append, args := #[x, x2], argTypes := #[t, t] }) (p p2 : Value) (hx : a.eval x = p) (hx2 : a.eval x2 = p2) {v : Value} {w' : World} (hr : (Builtin.append_ #[t, t] o.type #[p, p2]).run P w = .ok v w') (h : K (a.put o.dst v) w') : o.wp P a w K Q := by
  unfold Oper.wp execOp
  simp only [ho, resolve, invoke, builtin, Sem.run_bind, Sem.run_pure, Result.andThen_ok, List.map_toArray, List.map_cons, List.map_nil, hx, hx2, hr]
  exact h
theorem wp_extE (x : Operand) (i : Nat) (ho : o.op = .extract x i) (p v : Value) (hx : a.eval x = p) (hv : (execOp (fun _ => p) { o with op := .extract (.tmp 0) i }).run P w = .ok (.value v) w) (h : K (a.put o.dst v) w) : o.wp P a w K Q := by
  have e : execOp a.eval o = execOp (fun _ => p) { o with op := .extract (.tmp 0) i } := by
    unfold execOp
    simp only [ho, hx]
  unfold Oper.wp
  rw [e, hv]
  exact h
theorem wp_region_inv2 {ops : Array Oper} {id : Nat} (hm : P.follows .mixedOrders = true) (Inv : Array Bool → Act → World → Prop) (h0 : Inv (Array.replicate ops.size false) a w.drew) (hsz : ∀ l a w, Inv l a w → l.size = ops.size)
    (hord : ((List.range ops.size).all fun k => ((ops[k]?).map fun o => o.after.all fun e => !Region.binds .any e || decide (e.on < k)).getD false) = true)
    (hend : ∀ l a w, Inv l a w → (∀ k, k < ops.size → l.getD k false = true) → Q .normal a w)
    (hstep : ∀ l a w i o, Inv l a w → l.getD i true = false → ops[i]? = some o → (o.after.all fun e => !Region.binds .any e || l.getD e.on false) = true → Region.wanted o (yielded ops a.tmps) = true ∧ o.wp P a w (fun a' w' => Inv (l.setIfInBounds i true) a' w') Q) : (Code.region id ops true).wp P Q a w := by
  refine wp_region_held (S := fun _ => True) hm (any_inv Inv hsz (fun l a w h he => hend l a w h fun k hk => ready_nil (hsz l a w h) hord he (k + 1) k (Nat.lt_succ_self k) hk) (fun l a w i h hi => ?_) ops.size _ a _ h0 ?_)
  · obtain ⟨h1, h2, o, ho, ha⟩ := ready_mem hi
    have hs := hstep l a w i o h h2 ho ha
    unfold wpOp
    rw [ho]
    simp only
    rw [if_pos hs.1]
    exact .inl hs.2
  · unfold unl
    exact Nat.le_trans (List.length_filter_le ..) (by simp)
end
namespace Ir
open Kc
abbrev rav (x u g c : Nat) : Value := .agg #[.int .u64 x, .slice (some ⟨g, 0, none⟩) 2048 c, .int .i64 u]
abbrev rtv (x u g c : Nat) : Value := .tuple #[rav x u g c, .nilIface]
theorem wp_allocR {o : Oper} {a : Act} {w : World} {K : Act → World → Prop} {Q : Exit → Act → World → Prop} (ho : o.op = .alloc 41) (h : K (a.put o.dst (.pointer (some ⟨w.heap.size, 0, none⟩))) (w.alloc (.cells zR 41))) : o.wp Tryz.prog a w K Q := by
  have hr : (execOp a.eval o).run Tryz.prog w = .ok (.value (.pointer (some ⟨w.heap.size, 0, none⟩))) (w.alloc (.cells zR 41)) := by
    unfold execOp
    simp only [ho]
    kernel_rfl
  unfold Oper.wp
  rw [hr]
  exact h
/-- A step that leaves the world as it is. -/
theorem RI.stepW {n : Nat} {slot : Nat → Nat} {PV : Nat → Value → World → Prop} {A0 : Act} {W : World} {l : Array Bool} {a : Act} {w : World} (h : RI n slot PV A0 W l a w) (hinj : ∀ i j, i < n → j < n → slot i = slot j → i = j) (hlt : ∀ i, i < n → slot i < A0.tmps.size) (i : Nat) (hi : i < n) {v : Value} (hv : PV i v w) (d : Option Tmp) (hd : d = some (slot i)) : RI n slot PV A0 W (l.setIfInBounds i true) (a.put d v) w := by
  subst hd
  have hs : slot i < a.tmps.size := by rw [h.ts]; exact hlt i hi
  refine ⟨by simp [h.sz], h.df, by show (a.tmps.setIfInBounds (slot i) v).size = _; simp [h.ts], h.kp, fun j hj => ?_, fun j hj hl => ?_⟩
  · show (a.tmps.setIfInBounds (slot i) v).getD j undef = _
    rw [getD_put _ _ _ _ hs, if_neg (fun e => hj i hi e.symm)]
    exact h.old j hj
  · show PV j ((a.tmps.setIfInBounds (slot i) v).getD (slot j) undef) w
    rw [getD_put _ _ _ _ hs]
    by_cases e : slot j = slot i
    · rw [if_pos e]
      have := hinj j i hj hi e
      subst this
      exact hv
    · rw [if_neg e]
      rw [getD_set l i j false (by rw [h.sz]; exact hi), if_neg (fun e2 => e (by rw [e2]))] at hl
      exact h.pv j hj hl
/-- One function in a slice of its own, full. -/
def F1 (y : World) (v : Value) (f : Fn) : Prop := ∃ b a n c, v = .slice (some ⟨b, 0, none⟩) 1 1 ∧ y.cell? ⟨b, 0, none⟩ = some (.int .i64 f.params) ∧ y.cell? ⟨b, 1, none⟩ = some (.int .i64 f.locals) ∧ y.cell? ⟨b, 2, none⟩ = some (.slice a n c) ∧ SlS y (fun _ => True) (.slice a n c) f.body
theorem F1.kept {y y' : World} {v : Value} {f : Fn} (h : F1 y v f) (hk : Kept (fun _ => False) y y') : F1 y' v f := by
  obtain ⟨b, a, n, c, e, h0, h1, h2, h3⟩ := h
  exact ⟨b, a, n, c, e, hk.cell id h0, hk.cell id h1, hk.cell id h2, h3.kept hk fun _ _ => id⟩
theorem bf1 {y : World} {v : Value} {f : Fn} (h : FnV y v f) : ∃ V y', (Instr.buildSlice 38 1 #[(0, v)]).run Tryz.prog y = .ok V y' ∧ Kept (fun _ => False) y y' ∧ F1 y' V f := by
  obtain ⟨a, n, c, rfl, h⟩ := h
  have hk := kept_alloc9 y (.cells #[.int .i64 f.params, .int .i64 f.locals, .slice a n c] 37)
  exact ⟨_, _, buildF1 _ _ _ y, hk, _, a, n, c, rfl, xc 0 _ rfl, xc 1 _ rfl, xc 2 _ rfl, h.kept hk fun _ _ => id⟩
theorem infFn : ∃ i, Tryz.prog.info? 37 = some i ∧ i.zero = some (.agg #[.int .i64 0, .int .i64 0, .slice none 0 0]) ∧ i.size = 3 ∧ i.bytes = 40 := ⟨(Tryz.prog.info? 37).get (by kernel_rfl), by kernel_rfl, by kernel_rfl, by kernel_rfl, by kernel_rfl⟩
theorem undFs : Tryz.prog.underlying 38 = some (.slice 37) := by kernel_rfl
theorem app2 {y : World} {v v2 : Value} {f f2 : Fn} (h : F1 y v f) (h2 : F1 y v2 f2) : ∃ V y', (Builtin.append_ #[38, 38] 38 #[v, v2]).run Tryz.prog y = .ok V y' ∧ Kept (fun _ => False) y y' ∧ SlP y' (fun _ => True) V [f, f2] := by
  obtain ⟨b, a, n, c, rfl, p0, p1, p2, p3⟩ := h
  obtain ⟨b2, a2, n2, c2, rfl, q0, q1, q2, q3⟩ := h2
  obtain ⟨i, hi, hz, hs, hb⟩ := infFn
  have hr := run_append_grow (P := Tryz.prog) y 38 38 37 i _ undFs hi hz ⟨b, 0, none⟩ 1 1 [.int .i64 f.params, .int .i64 f.locals, .slice a n c] (by rw [hs]; rfl) (fun j v hv => by
      match j, hv with
      | 0, hv => cases hv; exact p0
      | 1, hv => cases hv; exact p1
      | 2, hv => cases hv; exact p2
      | j + 3, hv => simp at hv) ⟨b2, 0, none⟩ 1 1 [.int .i64 f2.params, .int .i64 f2.locals, .slice a2 n2 c2] (by rw [hs]; rfl) (fun j v hv => by
      match j, hv with
      | 0, hv => cases hv; exact q0
      | 1, hv => cases hv; exact q1
      | 2, hv => cases hv; exact q2
      | j + 3, hv => simp at hv) (by decide) (by decide) (by rw [hb]; decide)
  refine ⟨_, _, hr, ?_⟩
  generalize hZ : Builtin.zeroCells _ _ = Z
  generalize hG : grownCap y (1 + 1) 1 37 = G
  have hk1 : Kept (fun _ => False) y y.drew := kept_drew9 y
  have hk : Kept (fun _ => False) y (y.drew.alloc (.cells (#[.int .i64 f.params, .int .i64 f.locals, .slice a n c] ++ #[.int .i64 f2.params, .int .i64 f2.locals, .slice a2 n2 c2] ++ Z) 37)) := hk1.trans (kept_alloc9 y.drew _) fun _ _ h => h
  have cl : ∀ (j : Nat) (u : Value), (#[.int .i64 f.params, .int .i64 f.locals, .slice a n c, .int .i64 f2.params, .int .i64 f2.locals, .slice a2 n2 c2] : Array Value)[j]? = some u → (y.drew.alloc (.cells (#[.int .i64 f.params, .int .i64 f.locals, .slice a n c] ++ #[.int .i64 f2.params, .int .i64 f2.locals, .slice a2 n2 c2] ++ Z) 37)).cell? ⟨y.heap.size, j, none⟩ = some u := by
    intro j u hu
    have hj : j < 6 := by have := (Array.getElem?_eq_some_iff.1 hu).1; simpa using this
    have e : (#[.int .i64 f.params, .int .i64 f.locals, .slice a n c] ++ #[.int .i64 f2.params, .int .i64 f2.locals, .slice a2 n2 c2] ++ Z : Array Value)[j]? = some u := by
      rw [Array.getElem?_append_left (by simpa using hj)]
      exact hu
    exact xc (w := y.drew) j u e
  refine ⟨hk, _, G, rfl, by simp, .inr ⟨y.heap.size, 0, rfl, fun i fn hi => ?_⟩⟩
  match i, hi with
  | 0, hi => cases hi; exact ⟨trivial, cl 0 _ rfl, cl 1 _ rfl, _, cl 2 _ rfl, p3.kept hk fun _ _ => id⟩
  | 1, hi => cases hi; exact ⟨trivial, cl 3 _ rfl, cl 4 _ rfl, _, cl 5 _ rfl, q3.kept hk fun _ _ => id⟩
  | i + 2, hi => simp at hi
theorem eval8 (k a b c : Nat) (h1 : 1 ≤ k) (h25 : k ≤ 25) (ha : a < 18446744073709551616) (hb : b < 18446744073709551616) (hc : c < 18446744073709551616) (w : World) (pv : Value) (ht : Laid.KTab w) (hp : SlP w (fun _ => True) pv (p8 k a b c)) : Calls Tryz.prog 10 #[pv, .slice none 0 0] w fun e w' => ∃ g c1, e = .returned (rtv (ap k a b c) (13 + arN k) g c1) ∧ Kept (fun _ => False) w w' := by
  have hp2 := hp
  obtain ⟨pa, pc, rfl, _, _⟩ := hp2
  refine (evalL w ht pa _ pc (ap k a b c) (13 + arN k) (fun _ _ => True) (fun y sb hk => ?_) (fun _ _ _ h _ _ => h)).mono ?_
  · refine (eval_ok 3 9 (p8 k a b c) (right8 k a b c h1 h25) y _ sb (hp.kept hk fun _ _ => id) 100000 (by decide) _ _ (run8 k a b c h1 h25 ha hb hc) rfl).mono ?_
    rintro e w' ⟨g, c, he, hc, hk2⟩
    refine ⟨g, c, ?_, trivial, hk2⟩
    rw [he]
    have : ((s0 100000).more (13 + arN k)).used = 13 + arN k := by show 0 + (13 + arN k) = _; omega
    rw [this]
  · rintro e w' ⟨g, c, he, _, hk⟩
    exact ⟨g, c, he, hk⟩
theorem eval7 (k a b c : Nat) (h1 : 1 ≤ k) (h25 : k ≤ 25) (ha : a < 18446744073709551616) (hb : b < 18446744073709551616) (hc : c < 18446744073709551616) (w : World) (pv : Value) (ht : Laid.KTab w) (hp : SlP w (fun _ => True) pv (p7 k a b c)) : Calls Tryz.prog 10 #[pv, .slice none 0 0] w fun e w' => ∃ (g c1 u : Nat), e = .returned (.tuple #[.agg #[.int .u64 0, .slice (some ⟨g, 0, none⟩) 2048 c1, .int .i64 u], .nilIface]) ∧ w'.cell? ⟨g, 5, none⟩ = some (.int .u64 a) ∧ Kept (fun _ => False) w w' := by
  have hp2 := hp
  obtain ⟨pa, pc, rfl, _, _⟩ := hp2
  obtain ⟨s', hr, hd, hm⟩ := run7 k a b c h1 h25 ha hb hc
  refine (evalL w ht pa _ pc 0 s'.used (fun g y => (∀ i, i < 2048 → y.cell? ⟨g, i, none⟩ = some (.int .u64 (s'.mem i)))) (fun y sb hk => ?_) (fun g y y' h hk hb i hi => ?_)).mono ?_
  · refine (eval_ok 3 12 (p7 k a b c) (right7 k a b c h1 h25) y _ sb (hp.kept hk fun _ _ => id) 100000 (by decide) _ _ hr hd).mono ?_
    rintro e w' ⟨g, c, he, hc, hk2⟩
    exact ⟨g, c, he, hc, hk2⟩
  · have hne : g ≠ w.heap.size := by
      intro e
      have h5 := h 5 (by decide)
      rw [e] at h5
      simp [World.cell?, hb] at h5
    exact hk.cell hne (h i hi)
  · rintro e w' ⟨g, c, he, h, hk⟩
    refine ⟨g, c, s'.used, he, ?_, hk⟩
    rw [h 5 (by decide), hm]
noncomputable def ops9 : Array Oper := ((Tryz.f3.body.getD .skip |> (regOf · 9))).getD #[]
theorem ord_9 : ((List.range ops9.size).all fun k => ((ops9[k]?).map fun o => o.after.all fun e => !Region.binds .any e || decide (e.on < k)).getD false) = true := by kernel_rfl
theorem at_9 {i : Nat} {o : Oper} (ho : ops9[i]? = some o) {β : Type} (f : Oper → β) {x : β} (hx : (ops9[i]?).map f = some x) : f o = x := by rw [ho] at hx; exact Option.some.inj hx
theorem siz_9 : ops9.size = 22 := by kernel_rfl
def sl_9 (i : Nat) : Nat := if i < 16 then 90 + i else if i = 16 then 89 else if i = 17 then 106 else if i = 18 then 107 else if i = 19 then 19 else if i = 20 then 108 else 20
theorem sl_9_inj (i j : Nat) (hi : i < 22) (hj : j < 22) (h : sl_9 i = sl_9 j) : i = j := by
  unfold sl_9 at h
  repeat' split at h
  all_goals omega
theorem sl_9_lt {A0 : Act} (hn : A0.tmps.size = 136) (i : Nat) (hi : i < 22) : sl_9 i < A0.tmps.size := by
  rw [hn]; unfold sl_9; repeat' split
  all_goals omega
theorem sl_9_ne {j : Nat} (h : j < 19 ∨ (20 < j ∧ j < 89) ∨ 109 ≤ j) (i : Nat) (hi : i < 22) : sl_9 i ≠ j := by
  unfold sl_9; repeat' split
  all_goals omega
def PV_9 (k a9 b c m : Nat) : Nat → Value → World → Prop
  | 0, v, w => v = .int .u64 a9
  | 1, v, w => ExV w v 26 a9 .nil
  | 2, v, w => v = .int .u64 b
  | 3, v, w => ExV w v 26 b .nil
  | 4, v, w => v = .int .u64 c
  | 5, v, w => ExV w v 26 c .nil
  | 6, v, w => SlE w (fun _ => True) v (.cons 26 a9 .nil (.cons 26 b .nil (.cons 26 c .nil .nil)))
  | 7, v, w => ExV w v 29 1 (.cons 26 a9 .nil (.cons 26 b .nil (.cons 26 c .nil .nil)))
  | 8, v, w => StV w v (.cons 5 0 29 1 (.cons 26 a9 .nil (.cons 26 b .nil (.cons 26 c .nil .nil))) 0 0 .nil .nil .nil .nil)
  | 9, v, w => SlS w (fun _ => True) v (.cons 5 0 29 1 (.cons 26 a9 .nil (.cons 26 b .nil (.cons 26 c .nil .nil))) 0 0 .nil .nil .nil .nil)
  | 10, v, w => FnV w v ⟨0, 0, (.cons 5 0 29 1 (.cons 26 a9 .nil (.cons 26 b .nil (.cons 26 c .nil .nil))) 0 0 .nil .nil .nil .nil)⟩
  | 11, v, w => F1 w v ⟨0, 0, (.cons 5 0 29 1 (.cons 26 a9 .nil (.cons 26 b .nil (.cons 26 c .nil .nil))) 0 0 .nil .nil .nil .nil)⟩
  | 12, v, w => FnV w v (fK k)
  | 13, v, w => F1 w v (fK k)
  | 14, v, w => SlP w (fun _ => True) v (p8 k a9 b c)
  | 15, v, w => ∃ g c1, v = rtv (ap k a9 b c) (13 + arN k) g c1
  | 16, v, w => ∃ g c1, v = rtv (ap k a9 b c) (13 + arN k) g c1
  | 17, v, w => ∃ g c1, v = rav (ap k a9 b c) (13 + arN k) g c1
  | 18, v, w => v = .nilIface
  | 19, v, w => ∃ q, v = .pointer (some ⟨q, 0, none⟩) ∧ w.heap[q]? = some (.cells zR 41 (0, 0)) ∧ m ≤ q
  | 20, v, w => True
  | 21, v, w => v = .nilIface
  | _, _, _ => True
theorem pv_9_kept {k a9 b c m : Nat} : ∀ (i : Nat) (v : Value) (w w' : World), Kept (fun _ => False) w w' → PV_9 k a9 b c m i v w → PV_9 k a9 b c m i v w'
  | 0, v, w, w', hk, h => by have h : v = .int .u64 a9 := h; exact h
  | 1, v, w, w', hk, h => by have h : ExV w v 26 a9 .nil := h; exact h.kept hk
  | 2, v, w, w', hk, h => by have h : v = .int .u64 b := h; exact h
  | 3, v, w, w', hk, h => by have h : ExV w v 26 b .nil := h; exact h.kept hk
  | 4, v, w, w', hk, h => by have h : v = .int .u64 c := h; exact h
  | 5, v, w, w', hk, h => by have h : ExV w v 26 c .nil := h; exact h.kept hk
  | 6, v, w, w', hk, h => by have h : SlE w (fun _ => True) v (.cons 26 a9 .nil (.cons 26 b .nil (.cons 26 c .nil .nil))) := h; exact h.kept hk fun _ _ => id
  | 7, v, w, w', hk, h => by have h : ExV w v 29 1 (.cons 26 a9 .nil (.cons 26 b .nil (.cons 26 c .nil .nil))) := h; exact h.kept hk
  | 8, v, w, w', hk, h => by have h : StV w v (.cons 5 0 29 1 (.cons 26 a9 .nil (.cons 26 b .nil (.cons 26 c .nil .nil))) 0 0 .nil .nil .nil .nil) := h; exact h.kept hk
  | 9, v, w, w', hk, h => by have h : SlS w (fun _ => True) v (.cons 5 0 29 1 (.cons 26 a9 .nil (.cons 26 b .nil (.cons 26 c .nil .nil))) 0 0 .nil .nil .nil .nil) := h; exact h.kept hk fun _ _ => id
  | 10, v, w, w', hk, h => by have h : FnV w v ⟨0, 0, (.cons 5 0 29 1 (.cons 26 a9 .nil (.cons 26 b .nil (.cons 26 c .nil .nil))) 0 0 .nil .nil .nil .nil)⟩ := h; exact h.kept hk
  | 11, v, w, w', hk, h => by have h : F1 w v ⟨0, 0, (.cons 5 0 29 1 (.cons 26 a9 .nil (.cons 26 b .nil (.cons 26 c .nil .nil))) 0 0 .nil .nil .nil .nil)⟩ := h; exact h.kept hk
  | 12, v, w, w', hk, h => by have h : FnV w v (fK k) := h; exact h.kept hk
  | 13, v, w, w', hk, h => by have h : F1 w v (fK k) := h; exact h.kept hk
  | 14, v, w, w', hk, h => by have h : SlP w (fun _ => True) v (p8 k a9 b c) := h; exact h.kept hk fun _ _ => id
  | 15, v, w, w', hk, h => by have h : ∃ g c1, v = rtv (ap k a9 b c) (13 + arN k) g c1 := h; exact h
  | 16, v, w, w', hk, h => by have h : ∃ g c1, v = rtv (ap k a9 b c) (13 + arN k) g c1 := h; exact h
  | 17, v, w, w', hk, h => by have h : ∃ g c1, v = rav (ap k a9 b c) (13 + arN k) g c1 := h; exact h
  | 18, v, w, w', hk, h => by have h : v = .nilIface := h; exact h
  | 19, v, w, w', hk, h => by obtain ⟨q, e, hq, hm⟩ := h; exact ⟨q, e, (hk.block q (Array.getElem?_eq_some_iff.1 hq).1 id).trans hq, hm⟩
  | 20, v, w, w', hk, h => by have h : True := h; exact h
  | 21, v, w, w', hk, h => by have h : v = .nilIface := h; exact h
  | _ + 22, _, _, _, _, _ => trivial
/-- What is known behind the store. -/
def PV2_9 (k a9 b c : Nat) : Nat → Value → World → Prop
  | 16, v, w => ∃ g c1, v = rtv (ap k a9 b c) (13 + arN k) g c1
  | 18, v, w => v = .nilIface
  | 19, v, w => ∃ q g c1, v = .pointer (some ⟨q, 0, none⟩) ∧ w.heap[q]? = some (.cells #[.int .u64 (ap k a9 b c), .slice (some ⟨g, 0, none⟩) 2048 c1, .int .i64 ((13 + arN k : Nat) : Int)] 41 (0, 0))
  | 21, v, w => v = .nilIface
  | _, _, _ => True
structure Pre9 (k a9 b c : Nat) (A0 : Act) (W : World) (q14 : Nat) (E14 : Array Value) : Prop where
  n : A0.tmps.size = 136
  kt : Laid.KTab W
  h1 : 1 ≤ k
  h25 : k ≤ 25
  t1 : A0.tmps.getD 1 undef = .int .u64 a9
  t2 : A0.tmps.getD 2 undef = .int .u64 b
  t3 : A0.tmps.getD 3 undef = .int .u64 c
  ha : a9 < 18446744073709551616
  hb : b < 18446744073709551616
  hc : c < 18446744073709551616
  t14 : A0.tmps.getD 14 undef = .pointer (some ⟨q14, 0, none⟩)
  ld14 : ∀ y, Kept (fun _ => False) W y → (Instr.loadAt 37 (.pointer (some ⟨q14, 0, none⟩))).run Tryz.prog y = .ok (.agg E14) y
  fn14 : FnV W (.agg E14) (fK k)
section
variable {k a9 b c : Nat} {A0 : Act} {W w : World} {q14 : Nat} {E14 : Array Value} {l : Array Bool} {a : Act} {o : Oper} {Q : Exit → Act → World → Prop}
theorem s_9_0 (hp : Pre9 k a9 b c A0 W q14 E14) (h : RI 22 sl_9 (PV_9 k a9 b c W.heap.size) A0 W l a w) (ho : ops9[0]? = some o) (ha : (o.after.all fun e => !Region.binds .any e || l.getD e.on false) = true) : o.guard = none ∧ o.wp Tryz.prog a w (fun a' w' => RI 22 sl_9 (PV_9 k a9 b c W.heap.size) A0 W (l.setIfInBounds 0 true) a' w') Q := by
  refine ⟨at_9 ho (·.guard) (by kernel_rfl), ?_⟩
  have hd : o.dst = some (sl_9 0) := at_9 ho (·.dst) (by kernel_rfl)
  exact wp_moveE (.tmp 1) (at_9 ho (·.op) (by kernel_rfl)) (.int .u64 a9) (by show a.tmps.getD 1 undef = _; rw [h.old 1 (sl_9_ne (by decide))]; exact hp.t1) (h.step sl_9_inj (sl_9_lt hp.n) pv_9_kept 0 (by decide) (Kept.refl _ _) rfl _ hd)
theorem s_9_1 (hp : Pre9 k a9 b c A0 W q14 E14) (h : RI 22 sl_9 (PV_9 k a9 b c W.heap.size) A0 W l a w) (ho : ops9[1]? = some o) (ha : (o.after.all fun e => !Region.binds .any e || l.getD e.on false) = true) : o.guard = none ∧ o.wp Tryz.prog a w (fun a' w' => RI 22 sl_9 (PV_9 k a9 b c W.heap.size) A0 W (l.setIfInBounds 1 true) a' w') Q := by
  refine ⟨at_9 ho (·.guard) (by kernel_rfl), ?_⟩
  have hd : o.dst = some (sl_9 1) := at_9 ho (·.dst) (by kernel_rfl)
  exact wp_callE1 9 (.tmp 90) 22 (at_9 ho (·.op) (by kernel_rfl)) (.int .u64 (a9 : Nat)) _ (show a.tmps.getD 90 undef = _ from h.pv 0 (by decide) (dep_of ha 0 (at_9 ho (fun o => o.after.any fun e => e.on == 0 && Region.binds .any e) (by kernel_rfl)))) (runCst _ _) ((constant_walk a9 w).mono fun e w' ⟨he, hk⟩ => ⟨he, h.step sl_9_inj (sl_9_lt hp.n) pv_9_kept 1 (by decide) hk (ExV.leaf _ 26 hp.ha) _ hd⟩)
theorem s_9_2 (hp : Pre9 k a9 b c A0 W q14 E14) (h : RI 22 sl_9 (PV_9 k a9 b c W.heap.size) A0 W l a w) (ho : ops9[2]? = some o) (ha : (o.after.all fun e => !Region.binds .any e || l.getD e.on false) = true) : o.guard = none ∧ o.wp Tryz.prog a w (fun a' w' => RI 22 sl_9 (PV_9 k a9 b c W.heap.size) A0 W (l.setIfInBounds 2 true) a' w') Q := by
  refine ⟨at_9 ho (·.guard) (by kernel_rfl), ?_⟩
  have hd : o.dst = some (sl_9 2) := at_9 ho (·.dst) (by kernel_rfl)
  exact wp_moveE (.tmp 2) (at_9 ho (·.op) (by kernel_rfl)) (.int .u64 b) (by show a.tmps.getD 2 undef = _; rw [h.old 2 (sl_9_ne (by decide))]; exact hp.t2) (h.step sl_9_inj (sl_9_lt hp.n) pv_9_kept 2 (by decide) (Kept.refl _ _) rfl _ hd)
theorem s_9_3 (hp : Pre9 k a9 b c A0 W q14 E14) (h : RI 22 sl_9 (PV_9 k a9 b c W.heap.size) A0 W l a w) (ho : ops9[3]? = some o) (ha : (o.after.all fun e => !Region.binds .any e || l.getD e.on false) = true) : o.guard = none ∧ o.wp Tryz.prog a w (fun a' w' => RI 22 sl_9 (PV_9 k a9 b c W.heap.size) A0 W (l.setIfInBounds 3 true) a' w') Q := by
  refine ⟨at_9 ho (·.guard) (by kernel_rfl), ?_⟩
  have hd : o.dst = some (sl_9 3) := at_9 ho (·.dst) (by kernel_rfl)
  exact wp_callE1 9 (.tmp 92) 22 (at_9 ho (·.op) (by kernel_rfl)) (.int .u64 (b : Nat)) _ (show a.tmps.getD 92 undef = _ from h.pv 2 (by decide) (dep_of ha 2 (at_9 ho (fun o => o.after.any fun e => e.on == 2 && Region.binds .any e) (by kernel_rfl)))) (runCst _ _) ((constant_walk b w).mono fun e w' ⟨he, hk⟩ => ⟨he, h.step sl_9_inj (sl_9_lt hp.n) pv_9_kept 3 (by decide) hk (ExV.leaf _ 26 hp.hb) _ hd⟩)
theorem s_9_4 (hp : Pre9 k a9 b c A0 W q14 E14) (h : RI 22 sl_9 (PV_9 k a9 b c W.heap.size) A0 W l a w) (ho : ops9[4]? = some o) (ha : (o.after.all fun e => !Region.binds .any e || l.getD e.on false) = true) : o.guard = none ∧ o.wp Tryz.prog a w (fun a' w' => RI 22 sl_9 (PV_9 k a9 b c W.heap.size) A0 W (l.setIfInBounds 4 true) a' w') Q := by
  refine ⟨at_9 ho (·.guard) (by kernel_rfl), ?_⟩
  have hd : o.dst = some (sl_9 4) := at_9 ho (·.dst) (by kernel_rfl)
  exact wp_moveE (.tmp 3) (at_9 ho (·.op) (by kernel_rfl)) (.int .u64 c) (by show a.tmps.getD 3 undef = _; rw [h.old 3 (sl_9_ne (by decide))]; exact hp.t3) (h.step sl_9_inj (sl_9_lt hp.n) pv_9_kept 4 (by decide) (Kept.refl _ _) rfl _ hd)
theorem s_9_5 (hp : Pre9 k a9 b c A0 W q14 E14) (h : RI 22 sl_9 (PV_9 k a9 b c W.heap.size) A0 W l a w) (ho : ops9[5]? = some o) (ha : (o.after.all fun e => !Region.binds .any e || l.getD e.on false) = true) : o.guard = none ∧ o.wp Tryz.prog a w (fun a' w' => RI 22 sl_9 (PV_9 k a9 b c W.heap.size) A0 W (l.setIfInBounds 5 true) a' w') Q := by
  refine ⟨at_9 ho (·.guard) (by kernel_rfl), ?_⟩
  have hd : o.dst = some (sl_9 5) := at_9 ho (·.dst) (by kernel_rfl)
  exact wp_callE1 9 (.tmp 94) 22 (at_9 ho (·.op) (by kernel_rfl)) (.int .u64 (c : Nat)) _ (show a.tmps.getD 94 undef = _ from h.pv 4 (by decide) (dep_of ha 4 (at_9 ho (fun o => o.after.any fun e => e.on == 4 && Region.binds .any e) (by kernel_rfl)))) (runCst _ _) ((constant_walk c w).mono fun e w' ⟨he, hk⟩ => ⟨he, h.step sl_9_inj (sl_9_lt hp.n) pv_9_kept 5 (by decide) hk (ExV.leaf _ 26 hp.hc) _ hd⟩)
theorem s_9_6 (hp : Pre9 k a9 b c A0 W q14 E14) (h : RI 22 sl_9 (PV_9 k a9 b c W.heap.size) A0 W l a w) (ho : ops9[6]? = some o) (ha : (o.after.all fun e => !Region.binds .any e || l.getD e.on false) = true) : o.guard = none ∧ o.wp Tryz.prog a w (fun a' w' => RI 22 sl_9 (PV_9 k a9 b c W.heap.size) A0 W (l.setIfInBounds 6 true) a' w') Q := by
  refine ⟨at_9 ho (·.guard) (by kernel_rfl), ?_⟩
  have hd : o.dst = some (sl_9 6) := at_9 ho (·.dst) (by kernel_rfl)
  have h1 : ExV w (a.tmps.getD 91 undef) 26 a9 .nil := h.pv 1 (by decide) (dep_of ha 1 (at_9 ho (fun o => o.after.any fun e => e.on == 1 && Region.binds .any e) (by kernel_rfl)))
  have h3 : ExV w (a.tmps.getD 93 undef) 26 b .nil := h.pv 3 (by decide) (dep_of ha 3 (at_9 ho (fun o => o.after.any fun e => e.on == 3 && Region.binds .any e) (by kernel_rfl)))
  have h5 : ExV w (a.tmps.getD 95 undef) 26 c .nil := h.pv 5 (by decide) (dep_of ha 5 (at_9 ho (fun o => o.after.any fun e => e.on == 5 && Region.binds .any e) (by kernel_rfl)))
  obtain ⟨V, y', hr, hk, hs⟩ := bex3 h1 h3 h5
  exact wp_bs (n := 3) (t := 28) (parts := #[(0, .tmp 91), (1, .tmp 93), (2, .tmp 95)]) (at_9 ho (·.op) (by kernel_rfl)) #[(0, a.tmps.getD 91 undef), (1, a.tmps.getD 93 undef), (2, a.tmps.getD 95 undef)] (by simp only [List.map_toArray, List.map_cons, List.map_nil]; rfl) hr (h.step sl_9_inj (sl_9_lt hp.n) pv_9_kept 6 (by decide) hk hs _ hd)
theorem s_9_7 (hp : Pre9 k a9 b c A0 W q14 E14) (h : RI 22 sl_9 (PV_9 k a9 b c W.heap.size) A0 W l a w) (ho : ops9[7]? = some o) (ha : (o.after.all fun e => !Region.binds .any e || l.getD e.on false) = true) : o.guard = none ∧ o.wp Tryz.prog a w (fun a' w' => RI 22 sl_9 (PV_9 k a9 b c W.heap.size) A0 W (l.setIfInBounds 7 true) a' w') Q := by
  refine ⟨at_9 ho (·.guard) (by kernel_rfl), ?_⟩
  have hd : o.dst = some (sl_9 7) := at_9 ho (·.dst) (by kernel_rfl)
  have hs : SlE w (fun _ => True) (a.tmps.getD 96 undef) (.cons 26 a9 .nil (.cons 26 b .nil (.cons 26 c .nil .nil))) := h.pv 6 (by decide) (dep_of ha 6 (at_9 ho (fun o => o.after.any fun e => e.on == 6 && Region.binds .any e) (by kernel_rfl)))
  obtain ⟨sa, sc, e, _⟩ := id hs
  rw [e] at hs
  exact wp_bld3 30 (.const (.int .i64 29)) (.const (.int .u64 1)) (.tmp 96) (at_9 ho (·.op) (by kernel_rfl)) (.int .i64 29) (.int .u64 (1 : Nat)) (.slice sa ((.cons 26 a9 .nil (.cons 26 b .nil (.cons 26 c .nil .nil))) : Ef).len sc) rfl rfl e _ (bltX3 _ _ _ _ _) (h.step sl_9_inj (sl_9_lt hp.n) pv_9_kept 7 (by decide) (Kept.refl _ _) (show ExV w _ 29 1 (.cons 26 a9 .nil (.cons 26 b .nil (.cons 26 c .nil .nil))) from ⟨sa, _, sc, rfl, hs, by decide⟩) _ hd)
theorem s_9_8 (hp : Pre9 k a9 b c A0 W q14 E14) (h : RI 22 sl_9 (PV_9 k a9 b c W.heap.size) A0 W l a w) (ho : ops9[8]? = some o) (ha : (o.after.all fun e => !Region.binds .any e || l.getD e.on false) = true) : o.guard = none ∧ o.wp Tryz.prog a w (fun a' w' => RI 22 sl_9 (PV_9 k a9 b c W.heap.size) A0 W (l.setIfInBounds 8 true) a' w') Q := by
  refine ⟨at_9 ho (·.guard) (by kernel_rfl), ?_⟩
  have hd : o.dst = some (sl_9 8) := at_9 ho (·.dst) (by kernel_rfl)
  obtain ⟨aA, mA, cA, eA, gA, nA⟩ : ExV w (a.tmps.getD 97 undef) 29 1 (.cons 26 a9 .nil (.cons 26 b .nil (.cons 26 c .nil .nil))) := h.pv 7 (by decide) (dep_of ha 7 (at_9 ho (fun o => o.after.any fun e => e.on == 7 && Region.binds .any e) (by kernel_rfl)))
  exact wp_bld2 35 (.const (.int .i64 5)) (.tmp 97) (at_9 ho (·.op) (by kernel_rfl)) (.int .i64 5) _ rfl eA _ (bltA _ _ _ _) (h.step sl_9_inj (sl_9_lt hp.n) pv_9_kept 8 (by decide) (Kept.refl _ _) (show StV w _ (.cons 5 0 29 1 (.cons 26 a9 .nil (.cons 26 b .nil (.cons 26 c .nil .nil))) 0 0 .nil .nil .nil .nil) from ⟨aA, mA, cA, none, 0, 0, none, 0, 0, none, 0, 0, rfl, gA, slEn, slS0, slS0, nA, by decide⟩) _ hd)
theorem s_9_9 (hp : Pre9 k a9 b c A0 W q14 E14) (h : RI 22 sl_9 (PV_9 k a9 b c W.heap.size) A0 W l a w) (ho : ops9[9]? = some o) (ha : (o.after.all fun e => !Region.binds .any e || l.getD e.on false) = true) : o.guard = none ∧ o.wp Tryz.prog a w (fun a' w' => RI 22 sl_9 (PV_9 k a9 b c W.heap.size) A0 W (l.setIfInBounds 9 true) a' w') Q := by
  refine ⟨at_9 ho (·.guard) (by kernel_rfl), ?_⟩
  have hd : o.dst = some (sl_9 9) := at_9 ho (·.dst) (by kernel_rfl)
  have h8 : StV w (a.tmps.getD 98 undef) (.cons 5 0 29 1 (.cons 26 a9 .nil (.cons 26 b .nil (.cons 26 c .nil .nil))) 0 0 .nil .nil .nil .nil) := h.pv 8 (by decide) (dep_of ha 8 (at_9 ho (fun o => o.after.any fun e => e.on == 8 && Region.binds .any e) (by kernel_rfl)))
  obtain ⟨V, y', hr, hk, hs⟩ := bst1 h8
  exact wp_bs (n := 1) (t := 33) (parts := #[(0, .tmp 98)]) (at_9 ho (·.op) (by kernel_rfl)) #[(0, a.tmps.getD 98 undef)] (by simp only [List.map_toArray, List.map_cons, List.map_nil]; rfl) hr (h.step sl_9_inj (sl_9_lt hp.n) pv_9_kept 9 (by decide) hk hs _ hd)
theorem s_9_10 (hp : Pre9 k a9 b c A0 W q14 E14) (h : RI 22 sl_9 (PV_9 k a9 b c W.heap.size) A0 W l a w) (ho : ops9[10]? = some o) (ha : (o.after.all fun e => !Region.binds .any e || l.getD e.on false) = true) : o.guard = none ∧ o.wp Tryz.prog a w (fun a' w' => RI 22 sl_9 (PV_9 k a9 b c W.heap.size) A0 W (l.setIfInBounds 10 true) a' w') Q := by
  refine ⟨at_9 ho (·.guard) (by kernel_rfl), ?_⟩
  have hd : o.dst = some (sl_9 10) := at_9 ho (·.dst) (by kernel_rfl)
  have hs : SlS w (fun _ => True) (a.tmps.getD 99 undef) (.cons 5 0 29 1 (.cons 26 a9 .nil (.cons 26 b .nil (.cons 26 c .nil .nil))) 0 0 .nil .nil .nil .nil) := h.pv 9 (by decide) (dep_of ha 9 (at_9 ho (fun o => o.after.any fun e => e.on == 9 && Region.binds .any e) (by kernel_rfl)))
  obtain ⟨sa, sc, e, _⟩ := id hs
  rw [e] at hs
  exact wp_bld1 37 (.tmp 99) (at_9 ho (·.op) (by kernel_rfl)) (.slice sa ((.cons 5 0 29 1 (.cons 26 a9 .nil (.cons 26 b .nil (.cons 26 c .nil .nil))) 0 0 .nil .nil .nil .nil) : Sf).len sc) e _ (bltF _ _ _) (h.step sl_9_inj (sl_9_lt hp.n) pv_9_kept 10 (by decide) (Kept.refl _ _) (show FnV w _ ⟨0, 0, (.cons 5 0 29 1 (.cons 26 a9 .nil (.cons 26 b .nil (.cons 26 c .nil .nil))) 0 0 .nil .nil .nil .nil)⟩ from ⟨sa, _, sc, rfl, hs⟩) _ hd)
theorem s_9_11 (hp : Pre9 k a9 b c A0 W q14 E14) (h : RI 22 sl_9 (PV_9 k a9 b c W.heap.size) A0 W l a w) (ho : ops9[11]? = some o) (ha : (o.after.all fun e => !Region.binds .any e || l.getD e.on false) = true) : o.guard = none ∧ o.wp Tryz.prog a w (fun a' w' => RI 22 sl_9 (PV_9 k a9 b c W.heap.size) A0 W (l.setIfInBounds 11 true) a' w') Q := by
  refine ⟨at_9 ho (·.guard) (by kernel_rfl), ?_⟩
  have hd : o.dst = some (sl_9 11) := at_9 ho (·.dst) (by kernel_rfl)
  have h10 : FnV w (a.tmps.getD 100 undef) ⟨0, 0, (.cons 5 0 29 1 (.cons 26 a9 .nil (.cons 26 b .nil (.cons 26 c .nil .nil))) 0 0 .nil .nil .nil .nil)⟩ := h.pv 10 (by decide) (dep_of ha 10 (at_9 ho (fun o => o.after.any fun e => e.on == 10 && Region.binds .any e) (by kernel_rfl)))
  obtain ⟨V, y', hr, hk, hs⟩ := bf1 h10
  exact wp_bs (n := 1) (t := 38) (parts := #[(0, .tmp 100)]) (at_9 ho (·.op) (by kernel_rfl)) #[(0, a.tmps.getD 100 undef)] (by simp only [List.map_toArray, List.map_cons, List.map_nil]; rfl) hr (h.step sl_9_inj (sl_9_lt hp.n) pv_9_kept 11 (by decide) hk hs _ hd)
theorem s_9_12 (hp : Pre9 k a9 b c A0 W q14 E14) (h : RI 22 sl_9 (PV_9 k a9 b c W.heap.size) A0 W l a w) (ho : ops9[12]? = some o) (ha : (o.after.all fun e => !Region.binds .any e || l.getD e.on false) = true) : o.guard = none ∧ o.wp Tryz.prog a w (fun a' w' => RI 22 sl_9 (PV_9 k a9 b c W.heap.size) A0 W (l.setIfInBounds 12 true) a' w') Q := by
  refine ⟨at_9 ho (·.guard) (by kernel_rfl), ?_⟩
  have hd : o.dst = some (sl_9 12) := at_9 ho (·.dst) (by kernel_rfl)
  exact wp_loadE (P := Tryz.prog) (w := w) 37 (.tmp 14) (at_9 ho (·.op) (by kernel_rfl)) (.pointer (some ⟨q14, 0, none⟩)) _ (by show a.tmps.getD 14 undef = _; rw [h.old 14 (sl_9_ne (by decide))]; exact hp.t14) (hp.ld14 w h.kp) (h.step sl_9_inj (sl_9_lt hp.n) pv_9_kept 12 (by decide) (Kept.refl _ _) (show FnV w _ (fK k) from hp.fn14.kept h.kp) _ hd)
theorem s_9_13 (hp : Pre9 k a9 b c A0 W q14 E14) (h : RI 22 sl_9 (PV_9 k a9 b c W.heap.size) A0 W l a w) (ho : ops9[13]? = some o) (ha : (o.after.all fun e => !Region.binds .any e || l.getD e.on false) = true) : o.guard = none ∧ o.wp Tryz.prog a w (fun a' w' => RI 22 sl_9 (PV_9 k a9 b c W.heap.size) A0 W (l.setIfInBounds 13 true) a' w') Q := by
  refine ⟨at_9 ho (·.guard) (by kernel_rfl), ?_⟩
  have hd : o.dst = some (sl_9 13) := at_9 ho (·.dst) (by kernel_rfl)
  have h12 : FnV w (a.tmps.getD 102 undef) (fK k) := h.pv 12 (by decide) (dep_of ha 12 (at_9 ho (fun o => o.after.any fun e => e.on == 12 && Region.binds .any e) (by kernel_rfl)))
  obtain ⟨V, y', hr, hk, hs⟩ := bf1 h12
  exact wp_bs (n := 1) (t := 38) (parts := #[(0, .tmp 102)]) (at_9 ho (·.op) (by kernel_rfl)) #[(0, a.tmps.getD 102 undef)] (by simp only [List.map_toArray, List.map_cons, List.map_nil]; rfl) hr (h.step sl_9_inj (sl_9_lt hp.n) pv_9_kept 13 (by decide) hk hs _ hd)
theorem s_9_14 (hp : Pre9 k a9 b c A0 W q14 E14) (h : RI 22 sl_9 (PV_9 k a9 b c W.heap.size) A0 W l a w) (ho : ops9[14]? = some o) (ha : (o.after.all fun e => !Region.binds .any e || l.getD e.on false) = true) : o.guard = none ∧ o.wp Tryz.prog a w (fun a' w' => RI 22 sl_9 (PV_9 k a9 b c W.heap.size) A0 W (l.setIfInBounds 14 true) a' w') Q := by
  refine ⟨at_9 ho (·.guard) (by kernel_rfl), ?_⟩
  have hd : o.dst = some (sl_9 14) := at_9 ho (·.dst) (by kernel_rfl)
  have h11 : F1 w (a.tmps.getD 101 undef) ⟨0, 0, (.cons 5 0 29 1 (.cons 26 a9 .nil (.cons 26 b .nil (.cons 26 c .nil .nil))) 0 0 .nil .nil .nil .nil)⟩ := h.pv 11 (by decide) (dep_of ha 11 (at_9 ho (fun o => o.after.any fun e => e.on == 11 && Region.binds .any e) (by kernel_rfl)))
  have h13 : F1 w (a.tmps.getD 103 undef) (fK k) := h.pv 13 (by decide) (dep_of ha 13 (at_9 ho (fun o => o.after.any fun e => e.on == 13 && Region.binds .any e) (by kernel_rfl)))
  have hty : o.type = 38 := at_9 ho (·.type) (by kernel_rfl)
  obtain ⟨V, y', hr, hk, hs⟩ := app2 h11 h13
  exact wp_appE (.tmp 101) (.tmp 103) 38 (at_9 ho (·.op) (by kernel_rfl)) _ _ rfl rfl (by rw [hty]; exact hr) (h.step sl_9_inj (sl_9_lt hp.n) pv_9_kept 14 (by decide) hk hs _ hd)
theorem s_9_15 (hp : Pre9 k a9 b c A0 W q14 E14) (h : RI 22 sl_9 (PV_9 k a9 b c W.heap.size) A0 W l a w) (ho : ops9[15]? = some o) (ha : (o.after.all fun e => !Region.binds .any e || l.getD e.on false) = true) : o.guard = none ∧ o.wp Tryz.prog a w (fun a' w' => RI 22 sl_9 (PV_9 k a9 b c W.heap.size) A0 W (l.setIfInBounds 15 true) a' w') Q := by
  refine ⟨at_9 ho (·.guard) (by kernel_rfl), ?_⟩
  have hd : o.dst = some (sl_9 15) := at_9 ho (·.dst) (by kernel_rfl)
  have hs : SlP w (fun _ => True) (a.tmps.getD 104 undef) (p8 k a9 b c) := h.pv 14 (by decide) (dep_of ha 14 (at_9 ho (fun o => o.after.any fun e => e.on == 14 && Region.binds .any e) (by kernel_rfl)))
  exact wp_callE2 10 (.tmp 104) (.const (.slice none 0 0)) 38 39 (at_9 ho (·.op) (by kernel_rfl)) _ (.slice none 0 0) rfl rfl (runEval _ _ _) ((eval8 k a9 b c hp.h1 hp.h25 hp.ha hp.hb hp.hc w _ (ktab_kept hp.kt h.kp) hs).mono fun e w' ⟨g, c1, he, hk⟩ => ⟨_, he, h.step sl_9_inj (sl_9_lt hp.n) pv_9_kept 15 (by decide) hk ⟨g, c1, rfl⟩ _ hd⟩)
theorem s_9_16 (hp : Pre9 k a9 b c A0 W q14 E14) (h : RI 22 sl_9 (PV_9 k a9 b c W.heap.size) A0 W l a w) (ho : ops9[16]? = some o) (ha : (o.after.all fun e => !Region.binds .any e || l.getD e.on false) = true) : o.guard = none ∧ o.wp Tryz.prog a w (fun a' w' => RI 22 sl_9 (PV_9 k a9 b c W.heap.size) A0 W (l.setIfInBounds 16 true) a' w') Q := by
  refine ⟨at_9 ho (·.guard) (by kernel_rfl), ?_⟩
  have hd : o.dst = some (sl_9 16) := at_9 ho (·.dst) (by kernel_rfl)
  exact wp_moveE (.tmp 105) (at_9 ho (·.op) (by kernel_rfl)) _ rfl (h.step sl_9_inj (sl_9_lt hp.n) pv_9_kept 16 (by decide) (Kept.refl _ _) (h.pv 15 (by decide) (dep_of ha 15 (at_9 ho (fun o => o.after.any fun e => e.on == 15 && Region.binds .any e) (by kernel_rfl)))) _ hd)
theorem s_9_17 (hp : Pre9 k a9 b c A0 W q14 E14) (h : RI 22 sl_9 (PV_9 k a9 b c W.heap.size) A0 W l a w) (ho : ops9[17]? = some o) (ha : (o.after.all fun e => !Region.binds .any e || l.getD e.on false) = true) : o.guard = none ∧ o.wp Tryz.prog a w (fun a' w' => RI 22 sl_9 (PV_9 k a9 b c W.heap.size) A0 W (l.setIfInBounds 17 true) a' w') Q := by
  refine ⟨at_9 ho (·.guard) (by kernel_rfl), ?_⟩
  have hd : o.dst = some (sl_9 17) := at_9 ho (·.dst) (by kernel_rfl)
  have h16 : ∃ g c1, a.tmps.getD 89 undef = rtv (ap k a9 b c) (13 + arN k) g c1 := h.pv 16 (by decide) (dep_of ha 16 (at_9 ho (fun o => o.after.any fun e => e.on == 16 && Region.binds .any e) (by kernel_rfl)))
  obtain ⟨g, c1, e16⟩ := h16
  exact wp_extE (.tmp 89) 0 (at_9 ho (·.op) (by kernel_rfl)) _ (rav (ap k a9 b c) (13 + arN k) g c1) e16 rfl (h.step sl_9_inj (sl_9_lt hp.n) pv_9_kept 17 (by decide) (Kept.refl _ _) ⟨g, c1, rfl⟩ _ hd)
theorem s_9_18 (hp : Pre9 k a9 b c A0 W q14 E14) (h : RI 22 sl_9 (PV_9 k a9 b c W.heap.size) A0 W l a w) (ho : ops9[18]? = some o) (ha : (o.after.all fun e => !Region.binds .any e || l.getD e.on false) = true) : o.guard = none ∧ o.wp Tryz.prog a w (fun a' w' => RI 22 sl_9 (PV_9 k a9 b c W.heap.size) A0 W (l.setIfInBounds 18 true) a' w') Q := by
  refine ⟨at_9 ho (·.guard) (by kernel_rfl), ?_⟩
  have hd : o.dst = some (sl_9 18) := at_9 ho (·.dst) (by kernel_rfl)
  have h16 : ∃ g c1, a.tmps.getD 89 undef = rtv (ap k a9 b c) (13 + arN k) g c1 := h.pv 16 (by decide) (dep_of ha 16 (at_9 ho (fun o => o.after.any fun e => e.on == 16 && Region.binds .any e) (by kernel_rfl)))
  obtain ⟨g, c1, e16⟩ := h16
  exact wp_extE (.tmp 89) 1 (at_9 ho (·.op) (by kernel_rfl)) _ (.nilIface) e16 rfl (h.step sl_9_inj (sl_9_lt hp.n) pv_9_kept 18 (by decide) (Kept.refl _ _) rfl _ hd)
theorem s_9_19 (hp : Pre9 k a9 b c A0 W q14 E14) (h : RI 22 sl_9 (PV_9 k a9 b c W.heap.size) A0 W l a w) (ho : ops9[19]? = some o) (ha : (o.after.all fun e => !Region.binds .any e || l.getD e.on false) = true) : o.guard = none ∧ o.wp Tryz.prog a w (fun a' w' => RI 22 sl_9 (PV_9 k a9 b c W.heap.size) A0 W (l.setIfInBounds 19 true) a' w') Q := by
  refine ⟨at_9 ho (·.guard) (by kernel_rfl), ?_⟩
  have hd : o.dst = some (sl_9 19) := at_9 ho (·.dst) (by kernel_rfl)
  exact wp_allocR (at_9 ho (·.op) (by kernel_rfl)) (h.step sl_9_inj (sl_9_lt hp.n) pv_9_kept 19 (by decide) (kept_alloc9 w _) ⟨w.heap.size, rfl, heap_alloc_last w _, h.kp.size⟩ _ hd)
theorem s_9_21 (hp : Pre9 k a9 b c A0 W q14 E14) (h : RI 22 sl_9 (PV_9 k a9 b c W.heap.size) A0 W l a w) (ho : ops9[21]? = some o) (ha : (o.after.all fun e => !Region.binds .any e || l.getD e.on false) = true) : o.guard = none ∧ o.wp Tryz.prog a w (fun a' w' => RI 22 sl_9 (PV_9 k a9 b c W.heap.size) A0 W (l.setIfInBounds 21 true) a' w') Q := by
  refine ⟨at_9 ho (·.guard) (by kernel_rfl), ?_⟩
  have hd : o.dst = some (sl_9 21) := at_9 ho (·.dst) (by kernel_rfl)
  exact wp_assignE (.tmp 107) (at_9 ho (·.op) (by kernel_rfl)) _ rfl (h.step sl_9_inj (sl_9_lt hp.n) pv_9_kept 21 (by decide) (Kept.refl _ _) (h.pv 18 (by decide) (dep_of ha 18 (at_9 ho (fun o => o.after.any fun e => e.on == 18 && Region.binds .any e) (by kernel_rfl)))) _ hd)
theorem s_9 (hp : Pre9 k a9 b c A0 W q14 E14) (h : RI 22 sl_9 (PV_9 k a9 b c W.heap.size) A0 W l a w) (i : Nat) (h20 : i ≠ 20) (ho : ops9[i]? = some o) (ha : (o.after.all fun e => !Region.binds .any e || l.getD e.on false) = true) : o.guard = none ∧ o.wp Tryz.prog a w (fun a' w' => RI 22 sl_9 (PV_9 k a9 b c W.heap.size) A0 W (l.setIfInBounds i true) a' w') Q := by
  have hi : i < 22 := by have := (Array.getElem?_eq_some_iff.1 ho).1; rw [siz_9] at this; exact this
  match i, hi, ho, h20 with
  | 0, _, ho, _ => exact s_9_0 hp h ho ha
  | 1, _, ho, _ => exact s_9_1 hp h ho ha
  | 2, _, ho, _ => exact s_9_2 hp h ho ha
  | 3, _, ho, _ => exact s_9_3 hp h ho ha
  | 4, _, ho, _ => exact s_9_4 hp h ho ha
  | 5, _, ho, _ => exact s_9_5 hp h ho ha
  | 6, _, ho, _ => exact s_9_6 hp h ho ha
  | 7, _, ho, _ => exact s_9_7 hp h ho ha
  | 8, _, ho, _ => exact s_9_8 hp h ho ha
  | 9, _, ho, _ => exact s_9_9 hp h ho ha
  | 10, _, ho, _ => exact s_9_10 hp h ho ha
  | 11, _, ho, _ => exact s_9_11 hp h ho ha
  | 12, _, ho, _ => exact s_9_12 hp h ho ha
  | 13, _, ho, _ => exact s_9_13 hp h ho ha
  | 14, _, ho, _ => exact s_9_14 hp h ho ha
  | 15, _, ho, _ => exact s_9_15 hp h ho ha
  | 16, _, ho, _ => exact s_9_16 hp h ho ha
  | 17, _, ho, _ => exact s_9_17 hp h ho ha
  | 18, _, ho, _ => exact s_9_18 hp h ho ha
  | 19, _, ho, _ => exact s_9_19 hp h ho ha
  | 21, _, ho, _ => exact s_9_21 hp h ho ha
  | 20, _, _, h20 => exact absurd rfl h20
  | i + 22, hi, _, _ => omega
/-- The run, up to the store and behind it. -/
def Inv9 (k a9 b c : Nat) (A0 : Act) (W : World) (l : Array Bool) (a : Act) (w : World) : Prop :=
  (l.getD 20 false = false ∧ RI 22 sl_9 (PV_9 k a9 b c W.heap.size) A0 W l a w) ∨ (l.getD 20 false = true ∧ (∀ j, j < 20 → j ≠ 18 → l.getD j false = true) ∧ RI 22 sl_9 (PV2_9 k a9 b c) A0 W l a w)
theorem s_9_20 (hp : Pre9 k a9 b c A0 W q14 E14) (h : RI 22 sl_9 (PV_9 k a9 b c W.heap.size) A0 W l a w) (ho : ops9[20]? = some o) (ha : (o.after.all fun e => !Region.binds .any e || l.getD e.on false) = true) : o.guard = none ∧ o.wp Tryz.prog a w (fun a' w' => Inv9 k a9 b c A0 W (l.setIfInBounds 20 true) a' w') Q := by
  refine ⟨at_9 ho (·.guard) (by kernel_rfl), ?_⟩
  have hd : o.dst = none := at_9 ho (·.dst) (by kernel_rfl)
  have hl : ∀ j, j < 20 → j ≠ 18 → l.getD j false = true := by
    intro j hj h18
    match j, hj, h18 with
    | 0, _, _ => exact dep_of ha 0 (at_9 ho (fun o => o.after.any fun e => e.on == 0 && Region.binds .any e) (by kernel_rfl))
    | 1, _, _ => exact dep_of ha 1 (at_9 ho (fun o => o.after.any fun e => e.on == 1 && Region.binds .any e) (by kernel_rfl))
    | 2, _, _ => exact dep_of ha 2 (at_9 ho (fun o => o.after.any fun e => e.on == 2 && Region.binds .any e) (by kernel_rfl))
    | 3, _, _ => exact dep_of ha 3 (at_9 ho (fun o => o.after.any fun e => e.on == 3 && Region.binds .any e) (by kernel_rfl))
    | 4, _, _ => exact dep_of ha 4 (at_9 ho (fun o => o.after.any fun e => e.on == 4 && Region.binds .any e) (by kernel_rfl))
    | 5, _, _ => exact dep_of ha 5 (at_9 ho (fun o => o.after.any fun e => e.on == 5 && Region.binds .any e) (by kernel_rfl))
    | 6, _, _ => exact dep_of ha 6 (at_9 ho (fun o => o.after.any fun e => e.on == 6 && Region.binds .any e) (by kernel_rfl))
    | 7, _, _ => exact dep_of ha 7 (at_9 ho (fun o => o.after.any fun e => e.on == 7 && Region.binds .any e) (by kernel_rfl))
    | 8, _, _ => exact dep_of ha 8 (at_9 ho (fun o => o.after.any fun e => e.on == 8 && Region.binds .any e) (by kernel_rfl))
    | 9, _, _ => exact dep_of ha 9 (at_9 ho (fun o => o.after.any fun e => e.on == 9 && Region.binds .any e) (by kernel_rfl))
    | 10, _, _ => exact dep_of ha 10 (at_9 ho (fun o => o.after.any fun e => e.on == 10 && Region.binds .any e) (by kernel_rfl))
    | 11, _, _ => exact dep_of ha 11 (at_9 ho (fun o => o.after.any fun e => e.on == 11 && Region.binds .any e) (by kernel_rfl))
    | 12, _, _ => exact dep_of ha 12 (at_9 ho (fun o => o.after.any fun e => e.on == 12 && Region.binds .any e) (by kernel_rfl))
    | 13, _, _ => exact dep_of ha 13 (at_9 ho (fun o => o.after.any fun e => e.on == 13 && Region.binds .any e) (by kernel_rfl))
    | 14, _, _ => exact dep_of ha 14 (at_9 ho (fun o => o.after.any fun e => e.on == 14 && Region.binds .any e) (by kernel_rfl))
    | 15, _, _ => exact dep_of ha 15 (at_9 ho (fun o => o.after.any fun e => e.on == 15 && Region.binds .any e) (by kernel_rfl))
    | 16, _, _ => exact dep_of ha 16 (at_9 ho (fun o => o.after.any fun e => e.on == 16 && Region.binds .any e) (by kernel_rfl))
    | 17, _, _ => exact dep_of ha 17 (at_9 ho (fun o => o.after.any fun e => e.on == 17 && Region.binds .any e) (by kernel_rfl))
    | 19, _, _ => exact dep_of ha 19 (at_9 ho (fun o => o.after.any fun e => e.on == 19 && Region.binds .any e) (by kernel_rfl))
    | 18, _, h => exact absurd rfl h
    | j + 20, hj, _ => omega
  have h17 : ∃ g c1, a.tmps.getD 106 undef = rav (ap k a9 b c) (13 + arN k) g c1 := h.pv 17 (by decide) (hl 17 (by decide) (by decide))
  have h19 : ∃ q, a.tmps.getD 19 undef = .pointer (some ⟨q, 0, none⟩) ∧ w.heap[q]? = some (.cells zR 41 (0, 0)) ∧ W.heap.size ≤ q := h.pv 19 (by decide) (hl 19 (by decide) (by decide))
  obtain ⟨g, c1, e17⟩ := h17
  obtain ⟨q, e19, hq, hWq⟩ := h19
  refine wp_store_row 41 (.tmp 19) (.tmp 106) (at_9 ho (·.op) (by kernel_rfl)) q _ e19 e17 41 zR hq infRes rfl (by simp [Value.oneCell']) ?_
  rw [hd]
  have hkr : Kept (fun j => j = q) w (w.setRow q #[.int .u64 (ap k a9 b c), .slice (some ⟨g, 0, none⟩) 2048 c1, .int .i64 ((13 + arN k : Nat) : Int)]) := ⟨by simp, by simp, by simp, by simp, fun j hj hn => setRow_other w q j _ hn⟩
  have hrow := setRow_heap w q zR #[.int .u64 (ap k a9 b c), .slice (some ⟨g, 0, none⟩) 2048 c1, .int .i64 ((13 + arN k : Nat) : Int)] 41 (0, 0) hq
  have gs : ∀ j, j < 22 → (l.setIfInBounds 20 true).getD j false = if j = 20 then true else l.getD j false := fun j hj => getD_set l 20 j false (by rw [h.sz]; decide)
  refine .inr ⟨by rw [gs 20 (by decide), if_pos rfl], fun j hj h18 => by rw [gs j (by omega), if_neg (by omega)]; exact hl j hj h18, by simp [h.sz], h.df, h.ts, h.kp.trans hkr fun j hj e => by omega, h.old, fun i hi hli => ?_⟩
  match i, hi, hli with
  | 16, hi, hli => exact h.pv 16 (by decide) (hl 16 (by decide) (by decide))
  | 18, hi, hli => exact h.pv 18 (by decide) (by rw [gs 18 (by decide), if_neg (by decide)] at hli; exact hli)
  | 19, hi, hli => exact ⟨q, g, c1, e19, hrow⟩
  | 21, hi, hli => exact h.pv 21 (by decide) (by rw [gs 21 (by decide), if_neg (by decide)] at hli; exact hli)
  | 0, _, _ => trivial
  | 1, _, _ => trivial
  | 2, _, _ => trivial
  | 3, _, _ => trivial
  | 4, _, _ => trivial
  | 5, _, _ => trivial
  | 6, _, _ => trivial
  | 7, _, _ => trivial
  | 8, _, _ => trivial
  | 9, _, _ => trivial
  | 10, _, _ => trivial
  | 11, _, _ => trivial
  | 12, _, _ => trivial
  | 13, _, _ => trivial
  | 14, _, _ => trivial
  | 15, _, _ => trivial
  | 17, _, _ => trivial
  | 20, _, _ => trivial
  | i + 22, hi, _ => omega
theorem s2_9_18 (h : RI 22 sl_9 (PV2_9 k a9 b c) A0 W l a w) (hl20 : l.getD 20 false = true) (hl : ∀ j, j < 20 → j ≠ 18 → l.getD j false = true) (hn : A0.tmps.size = 136) (ho : ops9[18]? = some o) (ha : (o.after.all fun e => !Region.binds .any e || l.getD e.on false) = true) : o.guard = none ∧ o.wp Tryz.prog a w (fun a' w' => Inv9 k a9 b c A0 W (l.setIfInBounds 18 true) a' w') Q := by
  refine ⟨at_9 ho (·.guard) (by kernel_rfl), ?_⟩
  have hd : o.dst = some (sl_9 18) := at_9 ho (·.dst) (by kernel_rfl)
  have gs : ∀ j, j < 22 → (l.setIfInBounds 18 true).getD j false = if j = 18 then true else l.getD j false := fun j hj => getD_set l 18 j false (by rw [h.sz]; decide)
  have hR : RI 22 sl_9 (PV2_9 k a9 b c) A0 W (l.setIfInBounds 18 true) (a.put o.dst .nilIface) w := by
    have := RI.stepW h sl_9_inj (sl_9_lt hn) 18 (by decide) (v := .nilIface) (show PV2_9 k a9 b c 18 .nilIface w from rfl) _ hd
    exact this
  have hI : Inv9 k a9 b c A0 W (l.setIfInBounds 18 true) (a.put o.dst .nilIface) w := .inr ⟨by rw [gs 20 (by decide), if_neg (by decide)]; exact hl20, fun j hj h18 => by rw [gs j (by omega)]; split; rfl; exact hl j hj h18, hR⟩
  have h16 : ∃ g c1, a.tmps.getD 89 undef = rtv (ap k a9 b c) (13 + arN k) g c1 := h.pv 16 (by decide) (hl 16 (by decide) (by decide))
  obtain ⟨g, c1, e16⟩ := h16
  exact wp_extE (.tmp 89) 1 (at_9 ho (·.op) (by kernel_rfl)) _ .nilIface e16 rfl hI
theorem s2_9_21 (h : RI 22 sl_9 (PV2_9 k a9 b c) A0 W l a w) (hl20 : l.getD 20 false = true) (hl : ∀ j, j < 20 → j ≠ 18 → l.getD j false = true) (hn : A0.tmps.size = 136) (ho : ops9[21]? = some o) (ha : (o.after.all fun e => !Region.binds .any e || l.getD e.on false) = true) : o.guard = none ∧ o.wp Tryz.prog a w (fun a' w' => Inv9 k a9 b c A0 W (l.setIfInBounds 21 true) a' w') Q := by
  refine ⟨at_9 ho (·.guard) (by kernel_rfl), ?_⟩
  have hd : o.dst = some (sl_9 21) := at_9 ho (·.dst) (by kernel_rfl)
  have gs : ∀ j, j < 22 → (l.setIfInBounds 21 true).getD j false = if j = 21 then true else l.getD j false := fun j hj => getD_set l 21 j false (by rw [h.sz]; decide)
  have hR : RI 22 sl_9 (PV2_9 k a9 b c) A0 W (l.setIfInBounds 21 true) (a.put o.dst .nilIface) w := by
    have := RI.stepW h sl_9_inj (sl_9_lt hn) 21 (by decide) (v := .nilIface) (show PV2_9 k a9 b c 21 .nilIface w from rfl) _ hd
    exact this
  have hI : Inv9 k a9 b c A0 W (l.setIfInBounds 21 true) (a.put o.dst .nilIface) w := .inr ⟨by rw [gs 20 (by decide), if_neg (by decide)]; exact hl20, fun j hj h18 => by rw [gs j (by omega)]; split; rfl; exact hl j hj h18, hR⟩
  have h18 : a.tmps.getD 107 undef = .nilIface := h.pv 18 (by decide) (dep_of ha 18 (at_9 ho (fun o => o.after.any fun e => e.on == 18 && Region.binds .any e) (by kernel_rfl)))
  exact wp_assignE (.tmp 107) (at_9 ho (·.op) (by kernel_rfl)) _ h18 hI
theorem region9 {id : Nat} {w0 : World} (hp : Pre9 k a9 b c A0 W q14 E14) (hW : w0.drew = W)
    (hend : ∀ (q g c1 : Nat) (gg : Nat → Value) (y : World), Kept (fun _ => False) W y → y.heap[q]? = some (.cells #[.int .u64 (ap k a9 b c), .slice (some ⟨g, 0, none⟩) 2048 c1, .int .i64 ((13 + arN k : Nat) : Int)] 41 (0, 0)) → Q .normal ⟨(listOf (fun j => if j = 19 then .pointer (some ⟨q, 0, none⟩) else if j = 20 then .nilIface else if 89 ≤ j ∧ j < 109 then gg j else A0.tmps.getD j undef) 0 136).toArray, A0.defers⟩ y) : (Code.region id ops9 true).wp Tryz.prog Q A0 w0 := by
  refine wp_region_inv2 (by kernel_rfl) (Inv9 k a9 b c A0 W) (.inl ⟨?_, ?_⟩) (fun l a w h => ?_) ord_9 (fun l a w h hall => ?_) (fun l a w i o h hli ho ha => ?_)
  · simp [Array.getD]
  · rw [hW, siz_9]
    refine ⟨by simp, rfl, rfl, Kept.refl _ _, fun j _ => rfl, fun i hi hl => ?_⟩
    exfalso
    simp [Array.getD] at hl
  · rw [siz_9]
    rcases h with h | h
    · exact h.2.sz
    · exact h.2.2.sz
  · rw [siz_9] at hall
    rcases h with ⟨h, _⟩ | ⟨_, _, h⟩
    · rw [hall 20 (by decide)] at h; cases h
    have h19 : ∃ q g c1, a.tmps.getD 19 undef = .pointer (some ⟨q, 0, none⟩) ∧ w.heap[q]? = some (.cells #[.int .u64 (ap k a9 b c), .slice (some ⟨g, 0, none⟩) 2048 c1, .int .i64 ((13 + arN k : Nat) : Int)] 41 (0, 0)) := h.pv 19 (by decide) (hall 19 (by decide))
    have h21 : a.tmps.getD 20 undef = .nilIface := h.pv 21 (by decide) (hall 21 (by decide))
    obtain ⟨q, g, c1, e19, hq⟩ := h19
    have e := arr_of (T := a.tmps) (n := 136) (by rw [h.ts]; exact hp.n) (fun j => if j = 19 then .pointer (some ⟨q, 0, none⟩) else if j = 20 then .nilIface else if 89 ≤ j ∧ j < 109 then a.tmps.getD j undef else A0.tmps.getD j undef) (fun j hj => by
      by_cases h8 : j = 19
      · rw [if_pos h8, h8]; exact e19
      rw [if_neg h8]
      by_cases h8 : j = 20
      · rw [if_pos h8, h8]; exact h21
      rw [if_neg h8]
      by_cases h24 : 89 ≤ j ∧ j < 109
      · rw [if_pos h24]
      rw [if_neg h24]
      exact h.old j (sl_9_ne (by omega)))
    have ea : a = ⟨a.tmps, a.defers⟩ := rfl
    rw [ea, h.df, e]
    exact hend q g c1 _ w h.kp hq
  · rcases h with ⟨h20, h⟩ | ⟨h20, hl, h⟩
    · by_cases e : i = 20
      · subst e
        obtain ⟨h1, h2⟩ := s_9_20 hp h ho ha
        exact ⟨wanted_none h1, h2⟩
      · obtain ⟨h1, h2⟩ := s_9 (Q := Q) hp h i e ho ha
        refine ⟨wanted_none h1, Oper.wp_mono (fun a' w' h' => .inl ⟨?_, h'⟩) h2⟩
        rw [getD_set l i 20 false (by rw [h.sz]; have := (Array.getElem?_eq_some_iff.1 ho).1; rw [siz_9] at this; exact this), if_neg (fun e2 => e e2.symm)]
        exact h20
    · have hi : i < 22 := by have := (Array.getElem?_eq_some_iff.1 ho).1; rw [siz_9] at this; exact this
      have hf : l.getD i false = false := by
        have : l.getD i false = l.getD i true := by simp [Array.getD, h.sz, hi]
        rw [this]; exact hli
      have hc : i = 18 ∨ i = 21 := by
        by_cases h1 : i = 18
        · exact .inl h1
        by_cases h2 : i = 20
        · rw [h2, h20] at hf; cases hf
        by_cases h3 : i < 20
        · rw [hl i h3 h1] at hf; cases hf
        · exact .inr (by omega)
      rcases hc with rfl | rfl
      · obtain ⟨h1, h2⟩ := s2_9_18 h h20 hl hp.n ho ha
        exact ⟨wanted_none h1, h2⟩
      · obtain ⟨h1, h2⟩ := s2_9_21 h h20 hl hp.n ho ha
        exact ⟨wanted_none h1, h2⟩
end
end Ir
end Go.Proofs.YtcgpdijpppcbiaaGreatDoor
