/-
  mootlaw05.fixed. Own work.
-/
import Derived.Test.YtnfcjangminhoaaDoorMf
import Derived.Test.YtnfcjangminhoaaDoorArr
import Derived.Deep.Slices
import Derived.Deep.Fields
import Derived.ChangeSame
import Derived.OpenShut
import Derived.SizedLaws
namespace Go.Proofs.YtnfcjangminhoaaDoor
open Go.RowKit
set_option linter.unusedVariables false
set_option linter.unusedSimpArgs false
section
variable {P : Program}
theorem wp_bldc {op : Oper} {a : Act} {w : World} {K : Act → World → Prop} {Q : Exit → Act → World → Prop} (t : TypeId) (c : Value) (ho : op.op = .build t #[(0, .const c)]) (v : Value) (hl : (Instr.build t #[(0, c)]).run P w = .ok v w)
    (h : K (a.put op.dst v) w) : op.wp P a w K Q := by
  unfold Oper.wp execOp
  simp only [ho, List.map_toArray, List.map_cons, List.map_nil, Act.eval]
  simp [hl]
  exact h
theorem exec_bldc {o : Oper} {ev : Operand → Value} {w : World} (t : TypeId) (c : Value) (ho : o.op = .build t #[(0, .const c)]) (hc : ev (.const c) = c) (v : Value) (hl : (Instr.build t #[(0, c)]).run P w = .ok v w) : (execOp ev o).run P w = .ok (.value v) w := by
  unfold execOp
  simp only [ho, List.map_toArray, List.map_cons, List.map_nil, hc]
  simp [hl]
theorem wpList_bldc {ops : Array Oper} {rest : List Oper} {op : Oper} {a : Act} {w : World} {Q : Exit → Act → World → Prop} (hgd : op.guard = none) (t : TypeId) (c : Value) (ho : op.op = .build t #[(0, .const c)]) (v : Value) (hl : (Instr.build t #[(0, c)]).run P w = .ok v w)
    (h : wpList P ops Q rest (a.put op.dst v) w) : wpList P ops Q (op :: rest) a w :=
  wpList_plain hgd fun _ hK => wp_bldc t c ho v hl (hK _ _ h)
theorem wpList_build2 {ops : Array Oper} {rest : List Oper} {op : Oper} {a : Act} {w : World} {Q : Exit → Act → World → Prop} (hgd : op.guard = none) (t : TypeId) (x y : Operand) (ho : op.op = .buildSlice t 2 #[(0, x), (1, y)]) (p q v : Value) (hx : a.eval x = p) (hy : a.eval y = q) (w' : World) (hl : (Instr.buildSlice t 2 #[(0, p), (1, q)]).run P w = .ok v w')
    (h : wpList P ops Q rest (a.put op.dst v) w') : wpList P ops Q (op :: rest) a w :=
  wpList_plain hgd fun _ hK => by
    unfold Oper.wp execOp
    simp only [ho, List.map_toArray, List.map_cons, List.map_nil, hx, hy]
    simp [hl]
    exact hK _ _ h
end
namespace Mk
open Kc
/-- A digest that begins with a byte. -/
def one (b : Bt) : Hx := fun i => if i = 0 then b else 0#8
theorem bldH1 (w : World) : (Instr.build 27 #[(0, .int .u8 1)]).run Tryd.prog w = .ok (dv (one 1#8)) w := by kernel_rfl
theorem bldH2 (w : World) : (Instr.build 27 #[(0, .int .u8 2)]).run Tryd.prog w = .ok (dv (one 2#8)) w := by kernel_rfl
theorem bldR1 (w : World) : (Instr.build 26 #[(0, .int .u8 1)]).run Tryd.prog w = .ok (dv (one 1#8)) w := by kernel_rfl
theorem buildH2 (x y : Hx) (w : World) : (Instr.buildSlice 24 2 #[(0, dv x), (1, dv y)]).run Tryd.prog w = .ok (.slice (some ⟨w.heap.size, 0, none⟩) 2 2) (w.alloc (.cells (tab 64 (hc fun k => if k = 0 then x else y)) 27)) := by kernel_rfl
theorem new1 (w : World) (x : Hx) (T : TypeId) : IsHs (w.alloc (.cells (tab 32 fun i => bv (x i)) T)) (some ⟨w.heap.size, 0, none⟩) 1 fun _ => x :=
  .inr ⟨w.heap.size, 0, rfl, at5_of (m := 32) (f := fun _ => x) ((IsTab.new w T 32 fun i => bv (x i)).cong fun i hi => by unfold hc; rw [show i % 32 = i from by omega]) (by omega)⟩
theorem new2 (w : World) (f : Nat → Hx) (T : TypeId) : IsHs (w.alloc (.cells (tab 64 (hc f)) T)) (some ⟨w.heap.size, 0, none⟩) 2 f :=
  .inr ⟨w.heap.size, 0, rfl, at5_of (m := 64) (IsTab.new w T 64 (hc f)) (by omega)⟩
theorem wrong11 : wrong 1 1 = 0 := by decide
theorem wrong02 : wrong 0 2 = 5 := by decide
theorem wrongP11 : wrongP 1 1 1 = 0 := by decide
theorem pathLen11 : pathLen 1 1 1 = 1 := by decide
theorem root11 (f : Nat → Hx) : rootOf 1 1 f = und (ext 1 f) 1 0 := by unfold rootOf; rw [if_pos wrong11]; rfl
theorem sib11 (x : Hx) : sib (ext 1 fun _ => x) 1 0 = x := by
  show ext 1 (fun _ => x) (((1 / 2 ^ 0) ^^^ 1) * 2 ^ 0) = x
  exact ext_in _ (by decide)
theorem eqlT (x : Hx) (u : World) : (binOp .eql 27 (dv x) (dv x)).run Tryd.prog u = .ok (.bool true) u := by
  have := eql32 x x u
  rw [same32_refl] at this
  exact this
theorem exec_eqld {o : Oper} {ev : Operand → Value} {u : World} (x y : Operand) (yt : TypeId) (z : Hx) (ho : o.op = .binOp .eql 27 x y yt) (hx : ev x = dv z) (hy : ev y = dv z) : (execOp ev o).run Tryd.prog u = .ok (.value (.bool true)) u := by
  unfold execOp
  simp only [ho, hx, hy, Sem.run_bind, Sem.run_pure, Result.andThen_ok, guardE, eqlT]
structure Fx (W : World) (q1 : Nat) (r : Hx) (y : World) : Prop where
  s1 : IsTab y q1 27 32 fun i => bv (r i)
  below : Below W.heap.size W y
theorem Fx.next {W y y' : World} {q1 : Nat} {r : Hx} (h : Fx W q1 r y) (hb : Below y.heap.size y y') : Fx W q1 r y' := ⟨h.s1.below hb, bl h.below hb⟩
set_option maxHeartbeats 400000 in
set_option maxRecDepth 100000 in
theorem fixed5 (w : World) (ht : Laid.KTab w) :
    Calls Tryd.prog 10 #[] w fun e w' => e = .returned (.bool true) ∧ Below w.heap.size w w' := by
  have HT := Lib.hid ht
  clear ht
  have z2 := zeroHash
  generalize hz : (tab 32 fun _ => bv 0#8) = zh at *
  have HZ := Lib.hid hz
  clear hz
  have hzl : zh.size = 32 := by rw [← HZ.out, tab_size]
  have HZL := Lib.hid hzl
  clear hzl
  have HB1 := Lib.hid (buildH (one 1#8) w)
  have HX1 := Lib.hid (bldH1 w)
  have b1 : Below w.heap.size w (w.alloc (.cells (tab 32 fun i => bv (one 1#8 i)) 27)) := (Below.refl _ _).alloc (Nat.le_refl _) _
  have hr1 := root_any 1 (some ⟨w.heap.size, 0, none⟩) 1 1 (fun _ => one 1#8) _ (new1 w (one 1#8) 27) (fun h => by cases h) (Nat.le_refl _) (by decide) (ktab_below HT.out b1)
  rw [root11, wrong11, err0] at hr1
  have HR1 := Lib.hid hr1
  have hB1 := Lib.hid b1
  clear hr1 b1
  generalize hR : und (ext 1 fun _ => one 1#8) 1 0 = r at *
  have HRR := Lib.hid hR
  clear hR
  go_enter Tryd.func10, Tryd.ntmps10
  go_upto_region 2 with (first
    | ((with_reducible refine wpList_bldc (P := Tryd.prog) (w := w) ?_ 27 (.int .u8 1) ?_ (dv (one 1#8)) HX1.out ?_); (· exact rfl); (· exact rfl))
    | ((with_reducible refine wpList_build1 (P := Tryd.prog) (w := w) (t := 24) (x := .tmp 8) (p := dv (one 1#8)) (v := .slice (some ⟨w.heap.size, 0, none⟩) 1 1) (w' := w.alloc (.cells (tab 32 fun j => bv (one 1#8 j)) 27)) ?_ ?_ ?_ HB1.out ?_); (· exact rfl); (· exact rfl); (· exact rfl))
    | (go_at_call 8; (with_reducible refine HR1.out.mono ?_); rintro e w1 ⟨rfl, hb⟩; have H1 := Lib.hid (bl hB1.out hb); clear hb)
    | ((with_reducible refine wpList_store_row (P := Tryd.prog) (w := w1.alloc (.cells zh 27)) ?_ 27 (.tmp 1) (.tmp 11) ?_ w1.heap.size (tab 32 fun i => bv (r i)) ?_ ?_ 27 zh (heap_alloc_last w1 _) (infH _) ?_ (one_bv _ _) ?_); (· exact rfl); (· exact rfl); (· exact rfl); (· exact rfl); (· rw [HZL.out, tab_size]); rw [World.setRow_alloc_new]; simp only [Act.put]))
  have H2 : Hid (Fx w w1.heap.size r (w1.alloc (.cells (tab 32 fun i => bv (r i)) 27))) := Lib.hid ⟨IsTab.new w1 _ 32 _, H1.out.alloc H1.out.size _⟩
  clear HB1 HX1 HR1 hB1 H1
  generalize w1.alloc (.cells (tab 32 fun i => bv (r i)) 27) = y1 at *
  generalize w1.heap.size = q1 at *
  have HB2 := Lib.hid (buildH (one 1#8) y1)
  have HX2 := Lib.hid (bldH1 y1)
  have b2 : Below y1.heap.size y1 (y1.alloc (.cells (tab 32 fun i => bv (one 1#8 i)) 27)) := (Below.refl _ _).alloc (Nat.le_refl _) _
  have hp1 := path_any 1 (some ⟨y1.heap.size, 0, none⟩) 1 1 (fun _ => one 1#8) 1 _ (new1 y1 (one 1#8) 27) (fun h => by cases h) (Nat.le_refl _) (by decide) (ktab_below HT.out (bl H2.out.below b2))
  rw [wrongP11, pathLen11, err0] at hp1
  have HP1 := Lib.hid hp1
  have H3 := Lib.hid (H2.out.next b2)
  clear hp1 b2 H2
  go_upto_region 3 with (first
    | ((with_reducible refine wpList_bldc (P := Tryd.prog) (w := y1) ?_ 27 (.int .u8 1) ?_ (dv (one 1#8)) HX2.out ?_); (· exact rfl); (· exact rfl))
    | ((with_reducible refine wpList_build1 (P := Tryd.prog) (w := y1) (t := 24) (x := .tmp 14) (p := dv (one 1#8)) (v := .slice (some ⟨y1.heap.size, 0, none⟩) 1 1) (w' := y1.alloc (.cells (tab 32 fun j => bv (one 1#8 j)) 27)) ?_ ?_ ?_ HB2.out ?_); (· exact rfl); (· exact rfl); (· exact rfl))
    | (go_at_call 12; (with_reducible refine HP1.out.mono ?_); rintro e w2 ⟨V3, rfl, hrow, hb⟩; have H4 := Lib.hid (And.intro (H3.out.next hb) hrow); clear hb hrow))
  obtain ⟨a3, c3, rfl, hs3, _, hc3, hm3, _⟩ := hs_of H4.out.2
  have H5 := Lib.hid (And.intro H4.out.1 (And.intro hs3 (And.intro hc3 hm3)))
  clear HB2 HX2 HP1 H3 H4 hs3 hc3 hm3
  have HB3 := Lib.hid (buildH2 (one 1#8) (one 2#8) w2)
  have HX3 := Lib.hid (bldH1 w2)
  have HX4 := Lib.hid (bldH2 w2)
  have b3 : Below w2.heap.size w2 (w2.alloc (.cells (tab 64 (hc fun k => if k = 0 then one 1#8 else one 2#8)) 27)) := (Below.refl _ _).alloc (Nat.le_refl _) _
  have hr3 := root_any 0 (some ⟨w2.heap.size, 0, none⟩) 2 2 _ _ (new2 w2 (fun k => if k = 0 then one 1#8 else one 2#8) 27) (fun h => by cases h) (Nat.le_refl _) (by decide) (ktab_below HT.out (bl H5.out.1.below b3))
  rw [wrong02, err5] at hr3
  have HR3 := Lib.hid hr3
  have H6 := Lib.hid (And.intro (H5.out.1.next b3) (And.intro (H5.out.2.1.below b3) H5.out.2.2))
  clear hr3 b3 H5
  generalize rootOf 0 2 (fun k => if k = 0 then one 1#8 else one 2#8) = r3 at *
  go_upto_region 4 with (first
    | ((with_reducible refine wpList_bldc (P := Tryd.prog) (w := w2) ?_ 27 (.int .u8 1) ?_ (dv (one 1#8)) HX3.out ?_); (· exact rfl); (· exact rfl))
    | ((with_reducible refine wpList_bldc (P := Tryd.prog) (w := w2) ?_ 27 (.int .u8 2) ?_ (dv (one 2#8)) HX4.out ?_); (· exact rfl); (· exact rfl))
    | ((with_reducible refine wpList_build2 (P := Tryd.prog) (w := w2) (t := 24) (x := .tmp 20) (y := .tmp 21) (p := dv (one 1#8)) (q := dv (one 2#8)) (v := .slice (some ⟨w2.heap.size, 0, none⟩) 2 2) (w' := w2.alloc (.cells (tab 64 (hc fun k => if k = 0 then one 1#8 else one 2#8)) 27)) ?_ ?_ ?_ ?_ HB3.out ?_); (· exact rfl); (· exact rfl); (· exact rfl); (· exact rfl))
    | (go_at_call 8; (with_reducible refine HR3.out.mono ?_); rintro e w3 ⟨rfl, hb⟩; have H7 := Lib.hid (And.intro (H6.out.1.next hb) (And.intro (H6.out.2.1.below hb) H6.out.2.2)); clear hb)
    | ((with_reducible refine wpList_store_row (P := Tryd.prog) (w := w3.alloc (.cells zh 27)) ?_ 27 (.tmp 5) (.tmp 24) ?_ w3.heap.size (tab 32 fun i => bv (r3 i)) ?_ ?_ 27 zh (heap_alloc_last w3 _) (infH _) ?_ (one_bv _ _) ?_); (· exact rfl); (· exact rfl); (· exact rfl); (· exact rfl); (· rw [HZL.out, tab_size]); rw [World.setRow_alloc_new]; simp only [Act.put]))
  have b4 : Below w3.heap.size w3 (w3.alloc (.cells (tab 32 fun i => bv (r3 i)) 27)) := (Below.refl _ _).alloc (Nat.le_refl _) _
  have H8 := Lib.hid (And.intro (H7.out.1.next b4) (And.intro (H7.out.2.1.below b4) H7.out.2.2))
  clear b4 H7 H6 HB3 HX3 HX4 HR3
  generalize w3.alloc (.cells (tab 32 fun i => bv (r3 i)) 27) = y3 at *
  generalize w3.heap.size = q5 at *
  clear z2
  obtain ⟨b3, o3, rfl, h53⟩ := H8.out.2.1.at (show 0 < 1 by decide)
  clear h53
  have hS : Fx w q1 r y3.drew ∧ IsHs y3.drew (some ⟨b3, o3, none⟩) 1 (sib (ext 1 fun _ => one 1#8) 1) := ⟨⟨H8.out.1.s1, H8.out.1.below.drew⟩, H8.out.2.1⟩
  have HS0 := Lib.hid hS
  have HC3 := Lib.hid H8.out.2.2
  clear hS H8
  have l1 : ∀ u, (Fx w q1 r u ∧ IsHs u (some ⟨b3, o3, none⟩) 1 (sib (ext 1 fun _ => one 1#8) 1)) → (Instr.loadAt 27 (.pointer (some ⟨q1, 0, none⟩))).run Tryd.prog u = .ok (dv r) u := fun u hu => load32h hu.1.s1
  have l2 : ∀ u, (Fx w q1 r u ∧ IsHs u (some ⟨b3, o3, none⟩) 1 (sib (ext 1 fun _ => one 1#8) 1)) → (Instr.loadAt 27 (.pointer (some ⟨b3, o3, none⟩))).run Tryd.prog u = .ok (dv (one 1#8)) u := fun u hu => by
    obtain ⟨b, o, e, h5⟩ := hu.2.at (show 0 < 1 by decide)
    injection e with e
    injection e with e1 e2
    subst e1 e2
    have := loadH h5 (k := 0) (p := o3) (by decide) (by omega)
    rw [sib11] at this
    exact this
  have L1 := Lib.hid l1
  have L2 := Lib.hid l2
  clear l1 l2
  obtain ⟨fr, hfr⟩ : ∃ fr : Value → Value → Act, fr = fun x31 x32 => { tmps := ((.bool false) :: (Value.pointer (some ⟨q1, 0, none⟩)) :: (Value.nilIface) :: (Value.slice (some ⟨b3, o3, none⟩) 1 c3) :: (Value.nilIface) :: (Value.pointer (some ⟨q5, 0, none⟩)) :: (Value.iface 40 (.int .i64 5)) :: (Value.tuple #[dv r, .nilIface]) :: (dv (one 1#8)) :: (Value.slice (some ⟨w.heap.size, 0, none⟩) 1 1) :: (Value.tuple #[dv r, .nilIface]) :: (dv r) :: (Value.nilIface) :: (Value.tuple #[.slice (some ⟨b3, o3, none⟩) 1 c3, .nilIface]) :: (dv (one 1#8)) :: (Value.slice (some ⟨y1.heap.size, 0, none⟩) 1 1) :: (Value.tuple #[.slice (some ⟨b3, o3, none⟩) 1 c3, .nilIface]) :: (Value.slice (some ⟨b3, o3, none⟩) 1 c3) :: (Value.nilIface) :: (Value.tuple #[dv r3, .iface 40 (.int .i64 5)]) :: (dv (one 1#8)) :: (dv (one 2#8)) :: (Value.slice (some ⟨w2.heap.size, 0, none⟩) 2 2) :: (Value.tuple #[dv r3, .iface 40 (.int .i64 5)]) :: (dv r3) :: (Value.iface 40 (.int .i64 5)) :: (Value.nilIface) :: (.bool true) :: (.bool true) :: (dv r) :: (dv (one 1#8)) :: (x31) :: (x32) :: (undef) :: (undef) :: (undef) :: (undef) :: (undef) :: (undef) :: (undef) :: (undef) :: (undef) :: (undef) :: (undef) :: (undef) :: (undef) :: (undef) :: (undef) :: (undef) :: (undef) :: (undef) :: (undef) :: (undef) :: (undef) :: (undef) :: (undef) :: (undef) :: []).toArray, defers := [] } := ⟨_, rfl⟩
  have HFR := Lib.hid hfr
  clear hfr
  refine wp_region_float (fun u => Fx w q1 r u ∧ IsHs u (some ⟨b3, o3, none⟩) 1 (sib (ext 1 fun _ => one 1#8) 1)) [(0, true), (1, true), (2, true), (3, true), (4, true)] [5, 6]
    [(7, false), (8, true), (9, true), (10, true), (11, true), (12, true), (13, true), (14, true), (15, true), (16, false), (17, true), (18, true), (19, true), (20, true), (21, true), (22, true), (23, true), (24, true), (25, true), (26, true), (27, true), (28, true), (29, false), (30, true), (31, true)]
    (fun a y => ∃ (q31 : Nat) (z32 : Option Addr) (c32 : Nat), a = fr (.slice (some ⟨q31, 0, none⟩) 1 1) (.slice z32 17 c32) ∧ IsHs y (some ⟨q31, 0, none⟩) 1 (fun _ => one 1#8) ∧ IsHs y z32 17 zero) (by kernel_rfl) (by kernel_rfl) HS0.out ?_ ?_
  · refine wpOrdK_tk (some 26) (.nilIface) rfl rfl (by rfl) (fun _ _ => rfl) ?_
    conv => arg 7; simp only [Act.put, List.setIfInBounds_toArray, List.set_cons_zero, List.set_cons_succ]
    refine wpOrdK_tk (some 27) (.bool true) rfl rfl (by rfl) (fun _ _ => by simp [execOp, go_sem]) ?_
    conv => arg 7; simp only [Act.put, List.setIfInBounds_toArray, List.set_cons_zero, List.set_cons_succ]
    refine wpOrdK_tk (some 28) (.bool true) rfl rfl (by rfl) (fun _ _ => rfl) ?_
    conv => arg 7; simp only [Act.put, List.setIfInBounds_toArray, List.set_cons_zero, List.set_cons_succ]
    refine wpOrdK_ld (some 29) 27 (.tmp 1) (.pointer (some ⟨q1, 0, none⟩)) (dv r) rfl rfl (by go_simp) rfl rfl L1.out ?_
    conv => arg 7; simp only [Act.put, List.setIfInBounds_toArray, List.set_cons_zero, List.set_cons_succ]
    refine wpOrdK_tk (some 30) (dv (one 1#8)) rfl rfl (by go_simp) (fun u _ => exec_bldc 26 (.int .u8 1) rfl rfl _ (bldR1 u)) ?_
    conv => arg 7; simp only [Act.put, List.setIfInBounds_toArray, List.set_cons_zero, List.set_cons_succ]
    refine wpOrdK_done ?_
    show wpFloat _ _ _ _ _ 2 [5, 6] _ _
    generalize y3.drew = v0 at *
    refine wpFloat_all fun x hx => ?_
    have hx2 : x = 5 ∨ x = 6 := by simpa using hx
    clear hx
    rcases hx2 with rfl | rfl
    · refine wpFloat_one (o := ⟨some 31, .buildSlice 22 1 #[(0, .tmp 30)], 22, "law.go:49", _, some (2, true)⟩) rfl (by go_simp) fun J hJ => ?_
      refine wp_build1 22 (.tmp 30) rfl (dv (one 1#8)) (.slice (some ⟨v0.heap.size, 0, none⟩) 1 1) rfl (v0.alloc (.cells (tab 32 fun j => bv (one 1#8 j)) 26)) (buildR _ v0) ?_
      have hb : Below v0.heap.size v0 (v0.alloc (.cells (tab 32 fun j => bv (one 1#8 j)) 26)) := (Below.refl _ _).alloc (Nat.le_refl _) _
      have HN := Lib.hid (new1 v0 (one 1#8) 26)
      have HS1 := Lib.hid (And.intro (HS0.out.1.next hb) (HS0.out.2.below hb))
      refine hJ _ _ HS1.out ?_
      clear hJ J hb
      generalize v0.alloc (.cells (tab 32 fun j => bv (one 1#8 j)) 26) = v1 at *
      generalize v0.heap.size = q31 at *
      try conv => arg 8; simp only [Act.put, List.setIfInBounds_toArray, List.set_cons_zero, List.set_cons_succ]
      refine wpFloat_all fun x hx => ?_
      obtain rfl : x = 6 := by simpa using hx
      clear hx
      refine wpFloat_one (o := ⟨some 32, .call { callee := .value (.func 25), args := #[], argTypes := #[] }, 22, "law.go:49", _, some (2, true)⟩) rfl (by go_simp) fun J hJ => ?_
      go_simp
      refine (zeros_walk _).mono ?_
      rintro e v2 ⟨V, rfl, hrow, hb⟩
      obtain ⟨z32, c32, rfl, hz, _⟩ := hs_of hrow
      refine hJ _ _ ⟨HS1.out.1.next hb, HS1.out.2.below hb⟩ ?_
      clear hJ J
      try conv => arg 8; simp only [Act.put, List.setIfInBounds_toArray, List.set_cons_zero, List.set_cons_succ]
      refine wpFloat_done ⟨q31, z32, c32, ?_, HN.out.below hb, hz⟩
      rw [HFR.out]
    · refine wpFloat_one (o := ⟨some 32, .call { callee := .value (.func 25), args := #[], argTypes := #[] }, 22, "law.go:49", _, some (2, true)⟩) rfl (by go_simp) fun J hJ => ?_
      go_simp
      refine (zeros_walk _).mono ?_
      rintro e v1 ⟨V, rfl, hrow, hb⟩
      obtain ⟨z32, c32, rfl, hz, _⟩ := hs_of hrow
      have HS1 := Lib.hid (And.intro (HS0.out.1.next hb) (HS0.out.2.below hb))
      have HZ1 := Lib.hid hz
      refine hJ _ _ HS1.out ?_
      clear hJ J hb hrow hz
      try conv => arg 8; simp only [Act.put, List.setIfInBounds_toArray, List.set_cons_zero, List.set_cons_succ]
      refine wpFloat_all fun x hx => ?_
      obtain rfl : x = 5 := by simpa using hx
      clear hx
      refine wpFloat_one (o := ⟨some 31, .buildSlice 22 1 #[(0, .tmp 30)], 22, "law.go:49", _, some (2, true)⟩) rfl (by go_simp) fun J hJ => ?_
      refine wp_build1 22 (.tmp 30) rfl (dv (one 1#8)) (.slice (some ⟨v1.heap.size, 0, none⟩) 1 1) rfl (v1.alloc (.cells (tab 32 fun j => bv (one 1#8 j)) 26)) (buildR _ v1) ?_
      have hb : Below v1.heap.size v1 (v1.alloc (.cells (tab 32 fun j => bv (one 1#8 j)) 26)) := (Below.refl _ _).alloc (Nat.le_refl _) _
      have HN := Lib.hid (new1 v1 (one 1#8) 26)
      refine hJ _ _ ⟨HS1.out.1.next hb, HS1.out.2.below hb⟩ ?_
      clear hJ J
      try conv => arg 8; simp only [Act.put, List.setIfInBounds_toArray, List.set_cons_zero, List.set_cons_succ]
      refine wpFloat_done ⟨v1.heap.size, z32, c32, ?_, HN.out, HZ1.out.below hb⟩
      rw [HFR.out]
  · rintro a y hS ⟨q31, z32, c32, rfl, h31, h32⟩
    have HY := Lib.hid hS
    have hu := under_walk 1 1 17 c32 (some ⟨q31, 0, none⟩) z32 (fun _ => one 1#8) (by decide) (by decide) (by decide) 1 0 (by decide) (by decide) y h31 h32
    rw [show ((0 : Nat) : Int) = 0 from rfl, show ((1 : Nat) : Int) = 1 from rfl, HRR.out] at hu
    have HU := Lib.hid hu
    rw [HFR.out]
    clear hS hu h31 h32 HFR
    refine wpOrd_f (o := ⟨some 33, .call { callee := .value (.func 24), args := #[.tmp 31, .const (.int .i64 0), .const (.int .i64 1), .tmp 32], argTypes := #[22, 3, 3, 22] }, 26, "law.go:49", _, some (2, true)⟩) rfl (by go_simp) fun J hJ => ?_
    go_simp
    refine HU.out.mono ?_
    rintro e y4 ⟨rfl, hb⟩
    have HZ4 := Lib.hid (And.intro (HY.out.1.next hb) (HY.out.2.below hb))
    refine hJ _ _ HZ4.out ?_
    clear hJ J hb HY HU
    try conv => arg 6; simp only [Act.put, List.setIfInBounds_toArray, List.set_cons_zero, List.set_cons_succ]
    refine wpOrd_tk (some 34) (.bool true) rfl rfl (by go_simp) (fun u _ => exec_eqld (.tmp 29) (.tmp 33) 27 r rfl rfl rfl) ?_
    conv => arg 6; simp only [Act.put, List.setIfInBounds_toArray, List.set_cons_zero, List.set_cons_succ]
    refine wpOrd_tk (some 35) (.bool true) rfl rfl (by rfl) (fun _ _ => rfl) ?_
    conv => arg 6; simp only [Act.put, List.setIfInBounds_toArray, List.set_cons_zero, List.set_cons_succ]
    refine wpOrd_tk (some 36) (.bool true) rfl rfl (by rfl) (fun _ _ => rfl) ?_
    conv => arg 6; simp only [Act.put, List.setIfInBounds_toArray, List.set_cons_zero, List.set_cons_succ]
    refine wpOrd_tk (some 37) (.nilIface) rfl rfl (by go_simp) (fun _ _ => rfl) ?_
    conv => arg 6; simp only [Act.put, List.setIfInBounds_toArray, List.set_cons_zero, List.set_cons_succ]
    refine wpOrd_tk (some 38) (.bool true) rfl rfl (by go_simp) (fun _ _ => by simp [execOp, go_sem]) ?_
    conv => arg 6; simp only [Act.put, List.setIfInBounds_toArray, List.set_cons_zero, List.set_cons_succ]
    refine wpOrd_tk (some 39) (.bool true) rfl rfl (by rfl) (fun _ _ => rfl) ?_
    conv => arg 6; simp only [Act.put, List.setIfInBounds_toArray, List.set_cons_zero, List.set_cons_succ]
    refine wpOrd_tk (some 40) (.bool true) rfl rfl (by rfl) (fun _ _ => rfl) ?_
    conv => arg 6; simp only [Act.put, List.setIfInBounds_toArray, List.set_cons_zero, List.set_cons_succ]
    refine wpOrd_tk (some 41) (.slice (some ⟨b3, o3, none⟩) 1 c3) rfl rfl (by go_simp) (fun _ _ => rfl) ?_
    conv => arg 6; simp only [Act.put, List.setIfInBounds_toArray, List.set_cons_zero, List.set_cons_succ]
    refine wpOrd_f (o := ⟨some 42, .call { callee := .builtin .len, args := #[.tmp 41], argTypes := #[24] }, 3, "law.go:49", _, some (14, true)⟩) rfl (by go_simp) fun J hJ => ?_
    go_simp
    refine hJ _ _ HZ4.out ?_
    clear hJ J
    try conv => arg 6; simp only [Act.put, List.setIfInBounds_toArray, List.set_cons_zero, List.set_cons_succ]
    refine wpOrd_tk (some 43) (.bool true) rfl rfl (by go_simp) (fun _ _ => by simp [execOp, go_sem]) ?_
    conv => arg 6; simp only [Act.put, List.setIfInBounds_toArray, List.set_cons_zero, List.set_cons_succ]
    refine wpOrd_tk (some 44) (.bool true) rfl rfl (by rfl) (fun _ _ => rfl) ?_
    conv => arg 6; simp only [Act.put, List.setIfInBounds_toArray, List.set_cons_zero, List.set_cons_succ]
    refine wpOrd_tk (some 45) (.bool true) rfl rfl (by rfl) (fun _ _ => rfl) ?_
    conv => arg 6; simp only [Act.put, List.setIfInBounds_toArray, List.set_cons_zero, List.set_cons_succ]
    refine wpOrd_tk (some 46) (.slice (some ⟨b3, o3, none⟩) 1 c3) rfl rfl (by go_simp) (fun _ _ => rfl) ?_
    conv => arg 6; simp only [Act.put, List.setIfInBounds_toArray, List.set_cons_zero, List.set_cons_succ]
    refine wpOrd_tk (some 47) (.pointer (some ⟨b3, o3, none⟩)) rfl rfl (by go_simp) (fun _ _ => by simp [execOp, go_sem]) ?_
    conv => arg 6; simp only [Act.put, List.setIfInBounds_toArray, List.set_cons_zero, List.set_cons_succ]
    refine wpOrd_ld (some 48) 27 (.tmp 47) (.pointer (some ⟨b3, o3, none⟩)) (dv (one 1#8)) rfl rfl (by go_simp) rfl rfl L2.out ?_
    conv => arg 6; simp only [Act.put, List.setIfInBounds_toArray, List.set_cons_zero, List.set_cons_succ]
    refine wpOrd_tk (some 49) (dv (one 1#8)) rfl rfl (by go_simp) (fun u _ => exec_bldc 27 (.int .u8 1) rfl rfl _ (bldH1 u)) ?_
    conv => arg 6; simp only [Act.put, List.setIfInBounds_toArray, List.set_cons_zero, List.set_cons_succ]
    refine wpOrd_tk (some 50) (.bool true) rfl rfl (by go_simp) (fun u _ => exec_eqld (.tmp 48) (.tmp 49) 27 (one 1#8) rfl rfl rfl) ?_
    conv => arg 6; simp only [Act.put, List.setIfInBounds_toArray, List.set_cons_zero, List.set_cons_succ]
    refine wpOrd_tk (some 51) (.bool true) rfl rfl (by rfl) (fun _ _ => rfl) ?_
    conv => arg 6; simp only [Act.put, List.setIfInBounds_toArray, List.set_cons_zero, List.set_cons_succ]
    refine wpOrd_tk (some 52) (.bool true) rfl rfl (by rfl) (fun _ _ => rfl) ?_
    conv => arg 6; simp only [Act.put, List.setIfInBounds_toArray, List.set_cons_zero, List.set_cons_succ]
    refine wpOrd_tk (some 53) (.iface 40 (.int .i64 5)) rfl rfl (by go_simp) (fun _ _ => rfl) ?_
    conv => arg 6; simp only [Act.put, List.setIfInBounds_toArray, List.set_cons_zero, List.set_cons_succ]
    refine wpOrd_tk (some 54) (.iface 40 (.int .i64 5)) rfl rfl (by go_simp) (fun _ _ => by simp [execOp, go_sem]) ?_
    conv => arg 6; simp only [Act.put, List.setIfInBounds_toArray, List.set_cons_zero, List.set_cons_succ]
    refine wpOrd_f (o := ⟨some 55, .call { callee := .value (.func 14), args := #[.tmp 53, .tmp 54], argTypes := #[29, 29] }, 4, "law.go:49", _, some (26, true)⟩) rfl (by go_simp) fun J hJ => ?_
    go_simp
    refine (Err.is_num 5 5 _).mono ?_
    rintro e _ ⟨rfl, rfl⟩
    refine hJ _ _ HZ4.out ?_
    clear hJ J
    try conv => arg 6; simp only [Act.put, List.setIfInBounds_toArray, List.set_cons_zero, List.set_cons_succ]
    refine wpOrd_tk (some 56) (.bool true) rfl rfl (by rfl) (fun _ _ => rfl) ?_
    conv => arg 6; simp only [Act.put, List.setIfInBounds_toArray, List.set_cons_zero, List.set_cons_succ]
    refine wpOrd_tk (some 0) (.bool true) rfl rfl (by rfl) (fun _ _ => rfl) ?_
    conv => arg 6; simp only [Act.put, List.setIfInBounds_toArray, List.set_cons_zero, List.set_cons_succ]
    refine wpOrd_done (NoPanic.normal ?_)
    go_wp2_with fail
    go_ret
    exact ⟨rfl, HZ4.out.1.below⟩
end Mk
end Go.Proofs.YtnfcjangminhoaaDoor
/-
  A slice of digests that comes in. Own work, over the guide's lemmas of slices and arrays.
-/
namespace Go.Proofs.YtnfcjangminhoaaDoor
open Go.ChangeShapes Go.WideShapes Go.Deep Go.RowKit
set_option linter.unusedVariables false
namespace Mk
open Kc
section
variable {H : Type} {enc : TypeId × Value → H} {P : Program} {w : World} {base : Nat} {spare : Nat → Bool} {held : Bool}
/-- What stands at a place, as a byte. -/
def byteAt (w : World) (b o : Nat) : Bt := match w.cell? ⟨b, o, none⟩ with
  | some (.int _ z) => bof z
  | _ => 0#8
theorem rows32_of {t e u : TypeId} {a0 : Option Addr} {l0 c0 : Nat} {d : DataW H} {ps : List MemPlace} (ht : P.underlying t = some (.slice e)) (he : P.underlying e = some (.array 32 u)) (hu : P.underlying u = some (.int .u8))
    (hC : P.cellsOf e = 32) (hCu : P.cellsOf u = 1) (h : DataW.Trod enc P w base spare held t (.slice a0 l0 c0) d ps) :
    ∃ f : Nat → Hx, IsHs w a0 l0 f ∧ (a0 = none → l0 = 0 ∧ c0 = 0) ∧ l0 ≤ c0 ∧ c0 ≤ maxLen := by
  obtain ⟨fuel, hf⟩ := h
  rcases open_slice ht hf with ⟨h0, _⟩ | ⟨a, len, cap, m, n, D, Pl, hcs, _, hl, hm, hmm, _, hi⟩
  · have h1 : a0 = none ∧ l0 = 0 ∧ c0 = 0 := by simpa [Value.cells] using h0
    obtain ⟨rfl, rfl, rfl⟩ := h1
    exact ⟨fun _ _ => 0#8, .inl rfl, fun _ => ⟨rfl, rfl⟩, Nat.le_refl _, by decide⟩
  · have hva : a0 = some a ∧ l0 = len ∧ c0 = cap := by simpa [Value.cells] using hcs
    obtain ⟨rfl, rfl, rfl⟩ := hva
    have key : ∀ i, i < l0 → ∀ j, j < 32 → ∃ z : Int, w.cell? (a.add (i * 32 + j)) = some (.int .u8 z) ∧ (Lit.int .u8 z).wf = true := by
      intro i hil j hj
      have him : i < m := by rw [hmm]; split <;> omega
      obtain ⟨cs, hc, htr⟩ := hi i him
      rw [hC] at hc
      obtain ⟨_, hlen, hat⟩ := World.cells?_some hc
      obtain ⟨xs, m', _, _, hlen', hx, hel⟩ := DataW.trod_array he htr
      have e1 := hel j hj
      rw [hCu, Nat.mul_one, List.getElem?_eq_getElem (by omega)] at e1
      obtain ⟨z, e2, _, e3⟩ := DataW.trod_int hu e1
      refine ⟨z, ?_, e3⟩
      have h9 : ((cs.drop j).take 1)[0]? = some (.int .u8 z) := by rw [e2]; rfl
      have h8 : cs[j]? = some (.int .u8 z) := by simpa using h9
      have hcell := hat j hj
      rw [h8, add_add] at hcell
      exact hcell
    rcases Nat.eq_zero_or_pos l0 with h0 | h0
    · exact ⟨fun _ _ => 0#8, .inl h0, fun e => (by cases e), hl, hm⟩
    · obtain ⟨b, off, spot⟩ := a
      have hspot : spot = none := by
        obtain ⟨z, hz, _⟩ := key 0 h0 0 (by decide)
        simpa [Addr.add] using World.cell?_spot hz
      subst hspot
      refine ⟨fun i j => byteAt w b (off + 32 * i + j), .inr ⟨b, off, rfl, fun i j hi hj => ?_⟩, fun e => (by cases e), hl, hm⟩
      obtain ⟨z, hz, hw⟩ := key i hi j hj
      rw [add_at, show off + (i * 32 + j) = off + 32 * i + j from by omega] at hz
      have hb := wf_u8 hw
      rw [hz]
      show some (Value.int .u8 z) = some (bv (byteAt w b (off + 32 * i + j)))
      unfold byteAt bv
      rw [hz]
      show _ = some (Value.int .u8 (Bv (bof z)))
      rw [Bv_bof hb.1 hb.2]
end
theorem row_sized32 {H : Type} {enc : TypeId × Value → H} {P : Program} {w : World} {base : Nat} {held : Bool} {t e : TypeId} {a : Option Addr} {len cap : Nat} {d : DataW H} {p : List MemPlace} {ts : List TypeId} {ds : List (DataW H)} {j : Nat}
    (ht : P.underlying t = some (.slice e)) (hb : P.bytesOf e = 32) (h : DataW.Trod enc P w base (fun _ => true) held t (.slice a len cap) d p)
    (hsz : (DataW.weightsEach P ts ds).all (· ≤ reachBytes) = true) (htj : ts[j]? = some t) (hdj : ds[j]? = some d) : cap * 32 ≤ 140737488351232 := by
  obtain ⟨fuel, hf⟩ := h
  rcases open_slice ht hf with ⟨h0, _⟩ | ⟨a1, len1, cap1, m, n, D, Pl, hcs, hd, hl, hm, hmm, hDl, hi⟩
  · have h1 : a = none ∧ len = 0 ∧ cap = 0 := by simpa [Value.cells] using h0
    omega
  · have hva : a = some a1 ∧ len = len1 ∧ cap = cap1 := by simpa [Value.cells] using hcs
    have hd' := congrArg Prod.fst hDl
    simp only at hd'
    have := sized_slice hsz htj (by rw [hdj, hd']) ht
    rw [hb] at this
    have hr : reachBytes = 140737488351232 := by decide
    have hm2 : m = cap1 := by simpa using hmm
    simp only [List.length_map, List.length_range] at this
    rw [hr] at this
    have e : len1 + (m - len1) = cap := by omega
    rw [e] at this
    omega
end Mk
end Go.Proofs.YtnfcjangminhoaaDoor
