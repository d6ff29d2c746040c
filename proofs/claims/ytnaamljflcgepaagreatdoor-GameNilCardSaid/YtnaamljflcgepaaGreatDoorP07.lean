/- Merged of Qe Qf Qg. Own work. -/
import Derived.Test.YtnaamljflcgepaaGreatDoorP06
namespace Go.Proofs.YtnaamljflcgepaaGreatDoor
open Go.RowKit
set_option linter.unusedVariables false
set_option linter.unusedSimpArgs false
namespace Gm
open Kc Mk
theorem wpList_buildM {P : Program} {ops : Array Oper} {rest : List Oper} {o : Oper} {a : Act} {w : World} {Q : Exit → Act → World → Prop} (hg : o.guard = none) (t : TypeId) (ho : o.op = .build t #[])
    (v : Value) (hl : (Instr.build t #[]).run P w = .ok v w) (h : wpList P ops Q rest (a.put o.dst v) w) : wpList P ops Q (o :: rest) a w :=
  wpList_plain hg fun _ hK => by
    unfold Oper.wp execOp
    simp only [ho]
    simp [hl, Result.andThen]
    exact hK _ _ h
/-- The claim of noughts. -/
def zc : Cl := ⟨0, 0, -1, fun _ => 0#8, 0, 0, 0, 0, false, false, false, 0⟩
theorem results_cell1 {P : Program} {fn : Func} {p : Tmp} {ty : TypeId} (h : fn.results = #[.cell p ty]) (tmps : Array Value) (w : World) (g : Nat) (t : TypeId) (cs : Array Value) (fr : Nat × Nat) (d : TypeDesc)
    (hp : tmps.getD p undef = .pointer (some ⟨g, 0, none⟩)) (hg : w.heap[g]? = some (.cells cs t fr))
    (hu : P.underlying ty = some d) (hd : (match d with | .struct _ | .array _ _ => true | _ => false) = true) (hi : (P.info? ty).map (·.size) = some cs.size) :
    (results fn tmps).run P w = .ok (.agg cs) w := by
  have hp' : tmps[p]?.getD undef = .pointer (some ⟨g, 0, none⟩) := by simpa using hp
  simp [results, h, hp', asAddr, run_loadVar_row w g t ty cs fr d hg hu hd hi]
theorem zeroCl (u : World) : (zeroValue 33).run Tryz.prog u = .ok (clV zc) u := by kernel_rfl
theorem buildCl (u : World) : (Instr.build 33 #[]).run Tryz.prog u = .ok (clV zc) u := by kernel_rfl
def rlv (d l g : Int) (s : Hx) (i : Nat) : Value := if i = 0 then .int .i64 d else if i = 1 then .int .u64 l else if i = 2 then .int .u64 g else bv (s (i - 3))
theorem zeroRl (u : World) : (zeroValue 41).run Tryz.prog u = .ok (.agg (tab 35 (rlv 0 0 0 fun _ => 0#8))) u := by kernel_rfl
theorem buildRl (u : World) : (Instr.build 41 #[]).run Tryz.prog u = .ok (.agg (tab 35 (rlv 0 0 0 fun _ => 0#8))) u := by kernel_rfl
theorem infRl (g : Nat → Value) : (Tryz.prog.info? 41).map (·.size) = some (tab 35 g).size := by rw [tab_size]; kernel_rfl
theorem undRl : Tryz.prog.underlying 41 = some (.struct (Tryz.prog.fieldsOf 41)) := by kernel_rfl
theorem rlv_one (d l g : Int) (s : Hx) (k : Nat) : (rlv d l g s k).oneCell' = true := by
  unfold rlv
  repeat' split
  all_goals rfl
set_option maxHeartbeats 2000000 in
set_option maxRecDepth 100000 in
theorem Move_nil (w : World) (c p b now : Int) (df : Bool) (zs : Array Value) :
    Calls Tryz.prog 4 #[.pointer none, .int .i64 c, .bool df, .agg zs, .int .i64 p, .int .u64 b, .int .u64 now] w fun e w' => e = .returned (.tuple #[.int .i64 0, .iface 55 (.int .i64 1)]) ∧ Below w.heap.size w w' := by
  have HB := Lib.hid (bal w (.cells zs 29))
  go_enter Tryz.func4, Tryz.ntmps4
  go_wp2_with (fail)
  exact bodyPost_ret (v := .tuple #[.int .i64 0, .iface 55 (.int .i64 1)]) (by simp [results, Tryz.results4, go_sem]) rfl ⟨rfl, HB.out⟩
set_option maxHeartbeats 2000000 in
set_option maxRecDepth 100000 in
theorem Step_nil (w : World) (c p now : Int) (df : Bool) (zs : Array Value) :
    Calls Tryz.prog 8 #[.pointer none, .int .i64 c, .bool df, .agg zs, .int .i64 p, .int .u64 now] w fun e w' => e = .returned (.iface 55 (.int .i64 1)) ∧ Below w.heap.size w w' := by
  have HB := Lib.hid (bal w (.cells zs 51))
  go_enter Tryz.func8, Tryz.ntmps8
  go_wp2_with (fail)
  exact bodyPost_ret (v := .iface 55 (.int .i64 1)) (by simp [results, Tryz.results8, go_sem]) rfl ⟨rfl, HB.out⟩
set_option maxHeartbeats 2000000 in
set_option maxRecDepth 100000 in
theorem Resolve_nil (w : World) (c now : Int) :
    Calls Tryz.prog 9 #[.pointer none, .int .i64 c, .int .u64 now] w fun e w' => e = .returned (.iface 55 (.int .i64 1)) ∧ Below w.heap.size w w' := by
  go_enter Tryz.func9, Tryz.ntmps9
  go_wp2_with (fail)
  exact bodyPost_ret (v := .iface 55 (.int .i64 1)) (by simp [results, Tryz.results9, go_sem]) rfl ⟨rfl, Below.refl _ _⟩
theorem Len_nil (w : World) : Calls Tryz.prog 12 #[.pointer none] w fun e w' => e = .returned (.int .i64 0) ∧ w = w' := by
  go_enter Tryz.func12, Tryz.ntmps12
  go_wp2_with (fail)
  exact bodyPost_ret (v := .int .i64 0) (by simp [results, Tryz.results12, go_sem]) rfl ⟨rfl, rfl⟩
theorem Status_nil (w : World) : Calls Tryz.prog 13 #[.pointer none] w fun e w' => e = .returned (.int .i64 0) ∧ w = w' := by
  go_enter Tryz.func13, Tryz.ntmps13
  go_wp2_with (go_at_call 12; (with_reducible refine (Len_nil _).mono ?_); rintro e y1 ⟨he, hy⟩; obtain rfl : e = _ := he; subst hy)
  exact bodyPost_ret (v := .int .i64 0) (by simp [results, Tryz.results13, go_sem]) rfl ⟨rfl, rfl⟩
set_option maxHeartbeats 2000000 in
set_option maxRecDepth 100000 in
theorem Len_ok (w : World) (q a c : Nat) (G : GmS) (h : IsGm w q a c G) : Calls Tryz.prog 12 #[.pointer (some ⟨q, 0, none⟩)] w fun e w' => e = .returned (.int .i64 G.cs.length) ∧ w = w' := by
  have k36 := h.kv
  generalize G.cs.length = n at *
  clear h
  go_enter Tryz.func12, Tryz.ntmps12
  go_wp2_with (fail)
  exact bodyPost_ret (v := .int .i64 n) (by simp [results, Tryz.results12, go_sem]) rfl ⟨rfl, rfl⟩
def GmS.status (G : GmS) : Int := match G.cs with | [] => 0 | x :: _ => if x.resolved then (if x.countered then 2 else 1) else 0
theorem status_is (G : GmS) (hn : 0 < G.cs.length) : G.status = if G.cs[0].resolved then (if G.cs[0].countered then 2 else 1) else 0 := by
  cases G with
  | mk d l g s b cs =>
    cases cs with
    | nil => simp at hn
    | cons x t => rfl
set_option maxHeartbeats 2000000 in
set_option maxRecDepth 100000 in
theorem Status_ok (w : World) (q a c : Nat) (G : GmS) (h : IsGm w q a c G) (hn : 0 < G.cs.length) (hl : G.cs.length ≤ 64) : Calls Tryz.prog 13 #[.pointer (some ⟨q, 0, none⟩)] w fun e w' => e = .returned (.int .i64 G.status) ∧ Below w.heap.size w w' := by
  have HL := Lib.hid (Len_ok w q a c G h)
  have k36 := h.kv
  have hs := Lib.hid (status_is G hn)
  have kr : w.cell? ⟨a, 39, none⟩ = some (.bool G.cs[0].resolved) := by simpa [clv] using h.cl hn (k := 39) (by decide)
  have kc : w.cell? ⟨a, 40, none⟩ = some (.bool G.cs[0].countered) := by simpa [clv] using h.cl hn (k := 40) (by decide)
  rw [hs.out]
  generalize G.cs[0].resolved = r at *
  generalize G.cs[0].countered = t at *
  have hne : ((G.cs.length : Int) == 0) = false := by rw [beq_eq_false_iff_ne]; omega
  have hlt : (0 : Int) < (G.cs.length : Int) := by omega
  generalize G.cs.length = n at *
  clear h hs
  cases r with
  | false =>
    go_enter Tryz.func13, Tryz.ntmps13
    go_wp2_with (go_at_call 12; (with_reducible refine HL.out.mono ?_); rintro e y1 ⟨he, hy⟩; obtain rfl : e = _ := he; subst hy)
    exact bodyPost_ret (v := .int .i64 0) (by simp [results, Tryz.results13, go_sem]) rfl ⟨rfl, Below.refl _ _⟩
  | true =>
    cases t with
    | false =>
      go_enter Tryz.func13, Tryz.ntmps13
      go_wp2_with (go_at_call 12; (with_reducible refine HL.out.mono ?_); rintro e y1 ⟨he, hy⟩; obtain rfl : e = _ := he; subst hy)
      exact bodyPost_ret (v := .int .i64 1) (by simp [results, Tryz.results13, go_sem]) rfl ⟨rfl, Below.refl _ _⟩
    | true =>
      go_enter Tryz.func13, Tryz.ntmps13
      go_wp2_with (go_at_call 12; (with_reducible refine HL.out.mono ?_); rintro e y1 ⟨he, hy⟩; obtain rfl : e = _ := he; subst hy)
      exact bodyPost_ret (v := .int .i64 2) (by simp [results, Tryz.results13, go_sem]) rfl ⟨rfl, Below.refl _ _⟩
set_option maxHeartbeats 2000000 in
set_option maxRecDepth 100000 in
theorem Bond_ok (d : Int) (w : World) (h0 : 0 ≤ d) (h1 : d < 18446744073709551615) : Calls Tryz.prog 15 #[.int .i64 d] w fun e w' => e = .returned (.int .u64 (d + 1)) ∧ w = w' := by
  have hw : IntKind.u64.wrap d = d := by rw [IntWalk.u64_in _ (by omega)]
  have hw2 : IntKind.u64.wrap (d + 1) = d + 1 := by rw [IntWalk.u64_in _ (by omega)]
  have hn : decide (d < 0) = false := by simp; omega
  clear h0 h1
  go_enter Tryz.func15, Tryz.ntmps15
  go_wp2_with (fail)
  exact bodyPost_ret (v := .int .u64 (d + 1)) (by simp [results, Tryz.results15, go_sem]) rfl ⟨rfl, rfl⟩
set_option maxHeartbeats 2000000 in
set_option maxRecDepth 100000 in
theorem Bond_no (d : Int) (w : World) (h0 : d < 0) : Calls Tryz.prog 15 #[.int .i64 d] w fun e w' => e = .returned (.int .u64 0) ∧ w = w' := by
  go_enter Tryz.func15, Tryz.ntmps15
  go_wp2_with (fail)
  exact bodyPost_ret (v := .int .u64 0) (by simp [results, Tryz.results15, go_sem]) rfl ⟨rfl, rfl⟩
set_option maxHeartbeats 2000000 in
set_option maxRecDepth 100000 in
theorem Claim_nil (w : World) (i : Int) : Calls Tryz.prog 5 #[.pointer none, .int .i64 i] w fun e w' => e = .returned (.tuple #[clV zc, .iface 55 (.int .i64 1)]) ∧ Below w.heap.size w w' := by
  unfold clV
  have zcl := zeroCl
  have HBC := Lib.hid buildCl
  unfold clV at zcl HBC
  have hzs : (tab 42 (clv zc)).size = 42 := tab_size _ _
  have hone : (tab 42 (clv zc)).all (·.oneCell') = true := tab_one fun i => clv_one _ _
  have hinf := infCl (clv zc)
  obtain ⟨zs, hz⟩ : ∃ zs, tab 42 (clv zc) = zs := ⟨_, rfl⟩
  rw [hz] at zcl HBC hzs hone hinf
  have HZE := Lib.hid hz
  have HZS := Lib.hid (And.intro hzs (And.intro hone hinf))
  clear hz hzs hone hinf
  rw [HZE.out]
  have HA := Lib.hid (heap_alloc_last w (.cells zs 33))
  go_enter Tryz.func5, Tryz.ntmps5
  go_wp2_with (first
    | ((with_reducible refine wpList_buildM (P := Tryz.prog) (w := w.alloc (.cells zs 33)) ?_ 33 ?_ (.agg zs) (HBC.out _) ?_); (· exact rfl); (· exact rfl))
    | ((with_reducible refine wpList_store_row (P := Tryz.prog) (w := (w.alloc (.cells zs 33))) ?_ 33 (.tmp 4) (.tmp 10) ?_ w.heap.size (zs) ?_ ?_ 33 (zs) ?_ HZS.out.2.2 ?_ HZS.out.2.1 ?_); (· exact rfl); (· exact rfl); (· exact rfl); (· exact rfl); (· exact HA.out); (· exact rfl)))
  have hr : (World.setRow (w.alloc (.cells zs 33)) w.heap.size zs).heap[w.heap.size]? = some (.cells zs 33 (0, 0)) := setRow_heap _ _ _ _ _ _ HA.out
  exact bodyPost_ret (Kc.results_cell_tmp rfl _ _ w.heap.size 33 _ (0, 0) _ rfl hr undCl rfl HZS.out.2.2 (.iface 55 (.int .i64 1)) rfl) rfl ⟨rfl, below_setRow (bal _ _) (Nat.le_refl _) _⟩
set_option maxHeartbeats 2000000 in
set_option maxRecDepth 100000 in
theorem Claim_ok (w : World) (q a c i : Nat) (G : GmS) (h : IsGm w q a c G) (hi : i < G.cs.length) (hl : G.cs.length ≤ 64) : Calls Tryz.prog 5 #[.pointer (some ⟨q, 0, none⟩), .int .i64 i] w fun e w' => e = .returned (.tuple #[clV G.cs[i], .nilIface]) ∧ Below w.heap.size w w' := by
  have zcl := zeroCl
  have HBC := Lib.hid buildCl
  unfold clV at zcl HBC
  have hzs : (tab 42 (clv zc)).size = 42 := tab_size _ _
  have hone : (tab 42 (clv zc)).all (·.oneCell') = true := tab_one fun i => clv_one _ _
  have hinf := infCl (clv zc)
  obtain ⟨zs, hz⟩ : ∃ zs, tab 42 (clv zc) = zs := ⟨_, rfl⟩
  rw [hz] at zcl HBC hzs hone hinf
  have HZE := Lib.hid hz
  have HZS := Lib.hid (And.intro hzs (And.intro hone hinf))
  clear hz hzs hone hinf
  have HF := Lib.hid (fun y (hy : IsGm y q a c G) => find_ok y q a c i G hy hi hl)
  obtain ⟨x, hx⟩ : ∃ x, G.cs[i] = x := ⟨_, rfl⟩
  have hld : ∀ y, IsGm y q a c G → (Instr.loadAt 33 (.pointer (some ⟨a, i * 42, none⟩))).run Tryz.prog y = .ok (clV x) y := fun y hy => hx ▸ hy.load hi
  rw [hx]
  unfold clV at hld ⊢
  have HLDF := Lib.hid hld
  have HA := Lib.hid (heap_alloc_last w (.cells zs 33))
  have HG := Lib.hid (h.below (bal w (.cells zs 33)))
  clear h hl hld hx
  go_enter Tryz.func5, Tryz.ntmps5
  go_upto_region 6 with (go_at_call 17; (with_reducible refine (HF.out _ HG.out).mono ?_); rintro e y1 ⟨he, n, hy⟩; obtain rfl : e = _ := he; subst hy)
  have HLD := Lib.hid (HLDF.out _ (HG.out.drewN n))
  go_wp2_with (first
    | ((with_reducible refine wpList_loadE (P := Tryz.prog) (w := ((w.alloc (.cells zs 33)).drewN n)) (ty := 33) (x := .tmp 23) (p := .pointer (some ⟨a, i * 42, none⟩)) (v := .agg (tab 42 (clv x))) ?_ ?_ ?_ HLD.out ?_); (· exact rfl); (· exact rfl); (· exact rfl))
    | ((with_reducible refine wpList_store_row (P := Tryz.prog) (w := ((w.alloc (.cells zs 33)).drewN n)) ?_ 33 (.tmp 4) (.tmp 24) ?_ w.heap.size (tab 42 (clv x)) ?_ ?_ 33 (zs) ?_ (infCl _) ?_ (tab_one fun i => clv_one _ _) ?_); (· exact rfl); (· exact rfl); (· exact rfl); (· exact rfl); (· exact HA.out); (· rw [HZS.out.1, tab_size])))
  have hr : (World.setRow ((w.alloc (.cells zs 33)).drewN n) w.heap.size (tab 42 (clv x))).heap[w.heap.size]? = some (.cells (tab 42 (clv x)) 33 (0, 0)) := setRow_heap _ _ _ _ _ _ HA.out
  exact bodyPost_ret (Kc.results_cell_tmp rfl _ _ w.heap.size 33 _ (0, 0) _ rfl hr undCl rfl (infCl _) (.nilIface) rfl) rfl ⟨rfl, below_setRow (bl (bal _ _) (Lk.below ⟨n, rfl⟩)) (Nat.le_refl _) _⟩
set_option maxHeartbeats 2000000 in
set_option maxRecDepth 100000 in
theorem Rules_nil (w : World) : Calls Tryz.prog 14 #[.pointer none] w fun e w' => e = .returned (.agg (tab 35 (rlv 0 0 0 fun _ => 0#8))) ∧ Below w.heap.size w w' := by
  have zcl := zeroRl
  have HBC := Lib.hid buildRl
  have hzs : (tab 35 (rlv 0 0 0 fun _ => 0#8)).size = 35 := tab_size _ _
  have hone : (tab 35 (rlv 0 0 0 fun _ => 0#8)).all (·.oneCell') = true := tab_one fun i => rlv_one _ _ _ _ _
  have hinf := infRl (rlv 0 0 0 fun _ => 0#8)
  obtain ⟨zs, hz⟩ : ∃ zs, tab 35 (rlv 0 0 0 fun _ => 0#8) = zs := ⟨_, rfl⟩
  rw [hz] at zcl HBC hzs hone hinf
  rw [hz]
  have HZS := Lib.hid (And.intro hzs (And.intro hone hinf))
  clear hz hzs hone hinf
  have HA := Lib.hid (heap_alloc_last w (.cells zs 41))
  go_enter Tryz.func14, Tryz.ntmps14
  go_wp2_with (first
    | ((with_reducible refine wpList_buildM (P := Tryz.prog) (w := w.alloc (.cells zs 41)) ?_ 41 ?_ (.agg zs) (HBC.out _) ?_); (· exact rfl); (· exact rfl))
    | ((with_reducible refine wpList_store_row (P := Tryz.prog) (w := (w.alloc (.cells zs 41))) ?_ 41 (.tmp 2) (.tmp 5) ?_ w.heap.size (zs) ?_ ?_ 41 (zs) ?_ HZS.out.2.2 ?_ HZS.out.2.1 ?_); (· exact rfl); (· exact rfl); (· exact rfl); (· exact rfl); (· exact HA.out); (· exact rfl)))
  have hr : (World.setRow (w.alloc (.cells zs 41)) w.heap.size zs).heap[w.heap.size]? = some (.cells zs 41 (0, 0)) := setRow_heap _ _ _ _ _ _ HA.out
  exact bodyPost_ret (results_cell1 rfl _ _ w.heap.size 41 _ (0, 0) _ rfl hr undRl rfl HZS.out.2.2) rfl ⟨rfl, below_setRow (bal _ _) (Nat.le_refl _) _⟩
end Gm
end Go.Proofs.YtnaamljflcgepaaGreatDoor
namespace Go.Proofs.YtnaamljflcgepaaGreatDoor
open Go.RowKit
set_option linter.unusedVariables false
set_option linter.unusedSimpArgs false
namespace Gm
open Kc Mk
theorem wpList_buildE {P : Program} {ops : Array Oper} {rest : List Oper} {o : Oper} {a : Act} {w : World} {Q : Exit → Act → World → Prop} (hg : o.guard = none) (t : TypeId) (parts : Array (Nat × Operand)) (ho : o.op = .build t parts)
    (vs : Array (Nat × Value)) (hx : (parts.map fun (i, x) => (i, a.eval x)) = vs) (v : Value) (hl : (Instr.build t vs).run P w = .ok v w)
    (h : wpList P ops Q rest (a.put o.dst v) w) : wpList P ops Q (o :: rest) a w :=
  wpList_plain hg fun _ hK => by
    unfold Oper.wp execOp
    simp only [ho]
    rw [hx]
    simp [hl, Result.andThen]
    exact hK _ _ h
theorem wpList_buildSl {P : Program} {ops : Array Oper} {rest : List Oper} {o : Oper} {a : Act} {w : World} {Q : Exit → Act → World → Prop} (hg : o.guard = none) (t : TypeId) (n : Nat) (parts : Array (Nat × Operand)) (ho : o.op = .buildSlice t n parts)
    (vs : Array (Nat × Value)) (hx : (parts.map fun (i, x) => (i, a.eval x)) = vs) (v : Value) (w' : World) (hl : (Instr.buildSlice t n vs).run P w = .ok v w')
    (h : wpList P ops Q rest (a.put o.dst v) w') : wpList P ops Q (o :: rest) a w :=
  wpList_plain hg fun _ hK => by
    unfold Oper.wp execOp
    simp only [ho]
    rw [hx]
    simp [hl, Result.andThen]
    exact hK _ _ h
theorem buildRs (D l g : Int) (s : Hx) (u : World) : (Instr.build 41 #[(0, .int .i64 D), (1, .agg #[.int .u64 l, .int .u64 g]), (2, dv s)]).run Tryz.prog u = .ok (.agg (tab 35 (rlv D l g s))) u := by kernel_rfl
/-- A first claim. -/
def first (v : Hx) (p k now : Int) : Cl := ⟨-1, 0, 0, v, p, k, 0, now, false, false, false, p⟩
theorem buildFirst (v : Hx) (p k now : Int) (u : World) : (Instr.build 33 #[(0, .int .i64 (-1)), (1, .int .u64 1), (2, dv v), (3, .int .i64 p), (4, .int .i64 k), (5, .agg #[.int .u64 0, .int .u64 now]), (9, .int .i64 p)]).run Tryz.prog u = .ok (.agg (tab 42 (clv (first v p k now)))) u := by kernel_rfl
def gmc (D l g : Int) (s : Hx) (b : Nat) (V : Value) (i : Nat) : Value := if i < 35 then rlv D l g s i else if i = 35 then .pointer (some ⟨b, 0, none⟩) else V
theorem buildGm (D l g : Int) (s : Hx) (b : Nat) (a : Option Addr) (n c : Nat) (u : World) : (Instr.build 74 #[(0, .agg (tab 35 (rlv D l g s))), (1, .pointer (some ⟨b, 0, none⟩)), (2, .slice a n c)]).run Tryz.prog u = .ok (.agg (tab 37 (gmc D l g s b (.slice a n c)))) u := by kernel_rfl
theorem bldCl (x : Cl) (u : World) : (Instr.buildSlice 72 1 #[(0, .agg (tab 42 (clv x)))]).run Tryz.prog u = .ok (.slice (some ⟨u.heap.size, 0, none⟩) 1 1) (u.alloc (.cells (tab 42 (clv x)) 33)) := by kernel_rfl
set_option maxHeartbeats 2000000 in
set_option maxRecDepth 100000 in
theorem rules_walk (w : World) (D l g : Int) (s : Hx) :
    Calls Tryz.prog 7 #[.int .i64 D, .int .u64 l, .int .u64 g, dv s] w fun e w' => e = .returned (.agg (tab 35 (rlv D l g s))) ∧ Below w.heap.size w w' := by
  have zcl := zeroRl
  have hzs : (tab 35 (rlv 0 0 0 fun _ => 0#8)).size = 35 := tab_size _ _
  have hone : (tab 35 (rlv 0 0 0 fun _ => 0#8)).all (·.oneCell') = true := tab_one fun i => rlv_one _ _ _ _ _
  have hinf := infRl (rlv 0 0 0 fun _ => 0#8)
  obtain ⟨zs, hz⟩ : ∃ zs, tab 35 (rlv 0 0 0 fun _ => 0#8) = zs := ⟨_, rfl⟩
  rw [hz] at zcl hzs hone hinf
  have HZS := Lib.hid (And.intro hzs (And.intro hone hinf))
  clear hz hzs hone hinf
  have HBR := Lib.hid (buildRs D l g s)
  obtain ⟨sa, hsa⟩ : ∃ sa, (tab 32 fun i => bv (s i)) = sa := ⟨_, rfl⟩
  have hds : dv s = .agg sa := by unfold dv; rw [hsa]
  have HT0 : Hid (IsTab (w.alloc (.cells sa 29)) w.heap.size 29 32 fun i => bv (s i)) := Lib.hid (by rw [← hsa]; exact IsTab.new w _ 32 _)
  have HY : Hid (Below w.heap.size w ((w.alloc (.cells sa 29)).alloc (.cells zs 41))) := Lib.hid (bl (bal _ _) (bal _ _))
  have HLD : Hid ((Instr.loadAt 29 (.pointer (some ⟨w.heap.size, 0, none⟩))).run Tryz.prog ((w.alloc (.cells sa 29)).alloc (.cells zs 41)) = .ok (dv s) ((w.alloc (.cells sa 29)).alloc (.cells zs 41))) := Lib.hid (load32h (IsTab.alloc HT0.out _))
  have HA := Lib.hid (heap_alloc_last (w.alloc (.cells sa 29)) (.cells zs 41))
  rw [hds] at HLD HBR ⊢
  clear hsa hds HT0
  go_enter Tryz.func7, Tryz.ntmps7
  go_upto_region 1 with (fail)
  have hsz : (w.alloc (.cells sa 29)).heap.size = w.heap.size + 1 := by simp
  rw [hsz] at HA
  clear hsz
  generalize hy2 : (w.alloc (.cells sa 29)).alloc (.cells zs 41) = y at *
  refine wp_region_lit ?_
  refine wpList_plain rfl fun K' hK' => ?_
  go_simp
  refine hK' _ _ ?_
  clear hK' K'
  try simp only [Act.put, pS]
  refine wpList_plain rfl fun K' hK' => ?_
  go_simp
  refine hK' _ _ ?_
  clear hK' K'
  try simp only [Act.put, pS]
  refine wpList_plain rfl fun K' hK' => ?_
  go_simp
  refine hK' _ _ ?_
  clear hK' K'
  try simp only [Act.put, pS]
  refine wpList_plain rfl fun K' hK' => ?_
  go_simp
  refine hK' _ _ ?_
  clear hK' K'
  try simp only [Act.put, pS]
  ((with_reducible refine wpList_loadE (P := Tryz.prog) (w := y) (ty := 29) (x := .tmp 7) (p := .pointer (some ⟨w.heap.size, 0, none⟩)) (v := .agg sa) ?_ ?_ ?_ HLD.out ?_); (· exact rfl); (· exact rfl); (· exact rfl))
  try simp only [Act.put, pS]
  refine wpList_buildE rfl 41 #[(0, .tmp 9), (1, .tmp 12), (2, .tmp 13)] rfl #[(0, .int .i64 D), (1, .agg #[.int .u64 l, .int .u64 g]), (2, .agg sa)] ?_ (.agg (tab 35 (rlv D l g s))) (HBR.out _) ?_
  · simp only [List.map_toArray, List.map_cons, List.map_nil]; rfl
  try simp only [Act.put, pS]
  go_wp2_with (first
    | ((with_reducible refine wpList_store_row (P := Tryz.prog) (w := y) ?_ 41 (.tmp 8) (.tmp 14) ?_ (w.heap.size + 1) (tab 35 (rlv D l g s)) ?_ ?_ 41 (zs) ?_ (infRl _) ?_ (tab_one fun i => rlv_one _ _ _ _ _) ?_); (· exact rfl); (· exact rfl); (· exact rfl); (· exact rfl); (· exact HA.out); (· rw [HZS.out.1, tab_size])))
  have hr : (World.setRow y (w.heap.size + 1) (tab 35 (rlv D l g s))).heap[w.heap.size + 1]? = some (.cells (tab 35 (rlv D l g s)) 41 (0, 0)) := setRow_heap _ _ _ _ _ _ HA.out
  exact bodyPost_ret (results_cell1 rfl _ _ (w.heap.size + 1) 41 _ (0, 0) _ rfl hr undRl rfl (infRl _)) rfl ⟨rfl, below_setRow HY.out (Nat.le_succ _) _⟩
set_option maxHeartbeats 2000000 in
set_option maxRecDepth 100000 in
theorem New_nil (w : World) (p now : Int) (rs zs : Array Value) :
    Calls Tryz.prog 6 #[.agg rs, .pointer none, .int .i64 p, .agg zs, .int .u64 now] w fun e w' => e = .returned (.tuple #[.pointer none, .iface 55 (.int .i64 1)]) ∧ Below w.heap.size w w' := by
  have HB : Hid (Below w.heap.size w ((w.alloc (.cells rs 41)).alloc (.cells zs 29))) := Lib.hid (bl (bal _ _) (bal _ _))
  go_enter Tryz.func6, Tryz.ntmps6
  go_wp2_with (fail)
  exact bodyPost_ret (v := .tuple #[.pointer none, .iface 55 (.int .i64 1)]) (by simp [results, Tryz.results6, go_sem]) rfl ⟨rfl, HB.out⟩
end Gm
end Go.Proofs.YtnaamljflcgepaaGreatDoor
namespace Go.Proofs.YtnaamljflcgepaaGreatDoor
open Go.RowKit
set_option linter.unusedVariables false
set_option linter.unusedSimpArgs false
namespace Gm
open Kc Mk
theorem own_below {w w' : World} {b : Nat} {L : LedS} (h : IsLed w b L) (hb : Below w.heap.size w w') {k : Nat} (hk : OwnL w' b k) : OwnL w b k := by
  obtain ⟨V, hV, _⟩ := h.row
  rcases hk with hk | ⟨V', hV', hk⟩
  · exact .inl hk
  · rw [keep1 hb hV] at hV'; injection hV' with e; subst e
    exact .inr ⟨V, hV, hk⟩
theorem own_lt {w : World} {b : Nat} {L : LedS} (h : IsLed w b L) {k : Nat} (hk : OwnL w b k) : k < w.heap.size := (Led.own_ge h k hk).2
theorem IsGm.first {w : World} {q a b : Nat} {D l g : Int} {s : Hx} {x : Cl} (h : IsTab w q 74 37 (gmc D l g s b (.slice (some ⟨a, 0, none⟩) 1 1))) (ha : IsTab w a 33 42 (clv x)) (hne : a ≠ q) : IsGm w q a 1 ⟨D, l, g, s, b, [x]⟩ := by
  have c : ∀ i, i < 35 → w.cell? ⟨q, i, none⟩ = some (rlv D l g s i) := fun i hi => by
    have := IsTab.cell h i (by omega)
    rw [this]; unfold gmc; rw [if_pos hi]
  refine ⟨c 0 (by decide), c 1 (by decide), c 2 (by decide), fun i hi => ?_, IsTab.cell h 35 (by decide), IsTab.cell h 36 (by decide), hne, ⟨by rw [cls_len], .inr ⟨a, 1, tab 42 (clv x), rfl, Nat.zero_le _, ha, Nat.le_refl _, by decide, by rw [tab_size], ?_⟩⟩, fun o => IsTab.fz h o⟩
  · rw [c (3 + i) (by omega)]
    unfold rlv
    rw [if_neg (by omega), if_neg (by omega), if_neg (by omega), show 3 + i - 3 = i by omega]
  · show ((List.range 42).map (clv x)).take 42 = cl1 x ++ []
    rw [List.append_nil]; rfl
theorem clockR {w : World} {q : Nat} {D l g : Int} {s : Hx} (h : IsTab w q 41 35 (rlv D l g s)) : (Instr.loadAt 39 (.pointer (some ⟨q, 1, none⟩))).run Tryz.prog w = .ok (.agg #[.int .u64 l, .int .u64 g]) w := by
  refine run_loadAt_mid w q 1 _ [.int .u64 l, .int .u64 g] _ (fun j v hv => ?_) (show Tryz.prog.underlying 39 = some (.struct (Tryz.prog.fieldsOf 39)) from by kernel_rfl) rfl (by kernel_rfl)
  obtain ⟨hj, rfl⟩ := List.getElem?_eq_some_iff.1 hv
  simp only [List.length_cons, List.length_nil] at hj
  have e : j = 0 ∨ j = 1 := by omega
  rcases e with rfl | rfl
  · exact IsTab.cell h 1 (by decide)
  · exact IsTab.cell h 2 (by decide)
theorem loadRl {w : World} {q : Nat} {D l g : Int} {s : Hx} (h : IsTab w q 41 35 (rlv D l g s)) : (Instr.loadAt 41 (.pointer (some ⟨q, 0, none⟩))).run Tryz.prog w = .ok (.agg (tab 35 (rlv D l g s))) w := by
  refine run_loadAt_mid w q 0 _ ((List.range 35).map (rlv D l g s)) _ (fun j v hv => ?_) undRl rfl (by rw [List.length_map, List.length_range]; exact (infRl (rlv D l g s)).trans (by rw [tab_size]))
  obtain ⟨hj, rfl⟩ := List.getElem?_eq_some_iff.1 hv
  simp only [List.length_map, List.length_range] at hj
  simpa using IsTab.cell h j hj
theorem loadCb {w : World} {q : Nat} {x : Cl} (h : IsCb w q x) : (Instr.loadAt 33 (.pointer (some ⟨q, 0, none⟩))).run Tryz.prog w = .ok (.agg (tab 42 (clv x))) w :=
  loadCl (x := x) fun k hk => by simpa using IsTab.cell h k hk
set_option maxHeartbeats 8000000 in
set_option maxRecDepth 100000 in
theorem New_ok (w : World) (D l g p now : Int) (s v : Hx) (b : Nat) (L : LedS) (h : IsLed w b L) (d0 : 1 ≤ D) (d1 : D ≤ 20) (l0 : 1 ≤ l) (l1 : l ≤ 1099511627776) (g1 : g ≤ l) (n1 : now ≤ 1099511627776) (hok : (L.lockB p 1).1 = 0) :
    Calls Tryz.prog 6 #[.agg (tab 35 (rlv D l g s)), .pointer (some ⟨b, 0, none⟩), .int .i64 p, dv v, .int .u64 now] w fun e w' => ∃ q a, e = .returned (.tuple #[.pointer (some ⟨q, 0, none⟩), .nilIface]) ∧ IsGm w' q a 1 ⟨D, l, g, s, b, [first v p (L.lockN p 1) now]⟩ ∧ IsLed w' b (L.lockB p 1).2 ∧ w.heap.size ≤ q ∧ w.heap.size ≤ a ∧ (∀ k, OwnL w' b k → k ≠ q ∧ k ≠ a) ∧ Moves b w w' := by
  have HL := Lib.hid h
  obtain ⟨L2, hL2⟩ : ∃ L2, (L.lockB p 1).2 = L2 := ⟨_, rfl⟩
  obtain ⟨k, hk⟩ : ∃ k, L.lockN p 1 = k := ⟨_, rfl⟩
  have HLK := Lib.hid (fun (y : World) (hy : IsLed y b L) => Led.lock_to b p 1 y L L2 0 k .nilIface hy (by decide) (by rw [← hok, ← hL2]) hk rfl)
  have HCK := Lib.hid (fun y : World => Clk.check_ok l g y l0 l1 g1)
  have HMK := Lib.hid (fun y : World => (show Calls Tryz.prog 19 #[.int .i64 0, .int .u64 0] y fun e w' => e = .returned (.tuple #[.int .u64 1, .nilIface]) ∧ ∃ n, w' = y.drewN n from Pos.make_ok 0 0 y (by decide) (by decide) (by decide) (by decide)))
  have HBD := Lib.hid (fun y : World => (show Calls Tryz.prog 15 #[.int .i64 0] y fun e w' => e = .returned (.int .u64 1) ∧ y = w' from Bond_ok 0 y (by decide) (by decide)))
  rw [hL2, hk]
  have t1 : decide (D < 1) = false := by simp; omega
  have t2 : decide (20 < D) = false := by simp; omega
  have t3 : decide (1099511627776 < now) = false := by simp; omega
  have HBG := Lib.hid (buildGm D l g s b)
  have HBF := Lib.hid (buildFirst v p k now)
  have HBS := Lib.hid bldCl
  obtain ⟨x1, hx1⟩ : ∃ x1, first v p k now = x1 := ⟨_, rfl⟩
  rw [hx1] at HBF ⊢
  obtain ⟨rs, hrs⟩ : ∃ rs, tab 35 (rlv D l g s) = rs := ⟨_, rfl⟩
  obtain ⟨va, hva⟩ : ∃ va, (tab 32 fun i => bv (v i)) = va := ⟨_, rfl⟩
  have hdv : dv v = .agg va := by unfold dv; rw [hva]
  have H0 : Hid (IsTab ((w.alloc (.cells rs 41)).alloc (.cells va 29)) w.heap.size 41 35 (rlv D l g s) ∧ IsTab ((w.alloc (.cells rs 41)).alloc (.cells va 29)) (w.heap.size + 1) 29 32 (fun i => bv (v i)) ∧ Below w.heap.size w ((w.alloc (.cells rs 41)).alloc (.cells va 29))) := Lib.hid (by
    refine ⟨IsTab.alloc (by rw [← hrs]; exact IsTab.new w _ 35 _) _, ?_, bl (bal _ _) (bal _ _)⟩
    have := IsTab.new (w.alloc (.cells rs 41)) 29 32 fun i => bv (v i)
    rw [← hva]
    simpa using this)
  rw [hrs, hdv]
  rw [hrs] at HBG
  rw [hdv] at HBF
  have HRS := Lib.hid hrs
  have HVA := Lib.hid hva
  have zcl := zeroCl
  unfold clV at zcl
  have hzs : (tab 42 (clv zc)).size = 42 := tab_size _ _
  have hone : (tab 42 (clv zc)).all (·.oneCell') = true := tab_one fun i => clv_one _ _
  have hinf := infCl (clv zc)
  obtain ⟨zs, hz⟩ : ∃ zs, tab 42 (clv zc) = zs := ⟨_, rfl⟩
  rw [hz] at zcl hzs hone hinf
  have HZS := Lib.hid (And.intro hzs (And.intro hone hinf))
  clear hz hzs hone hinf h d0 d1 l0 l1 g1 n1 hok hL2 hk hx1 hrs hva hdv
  go_enter Tryz.func6, Tryz.ntmps6
  go_upto_region 3 with (fail)
  generalize (w.alloc (.cells rs 41)).alloc (.cells va 29) = y0 at *
  obtain ⟨q5, hq5⟩ : ∃ q5, w.heap.size = q5 := ⟨_, rfl⟩
  have HQ5 := Lib.hid hq5
  rw [hq5]
  rw [hq5] at H0
  clear hq5
  have c0 : y0.cell? ⟨q5, 0, none⟩ = some (.int .i64 D) := IsTab.cell H0.out.1 0 (by decide)
  have HCR := Lib.hid (clockR H0.out.1)
  go_upto_region 5 with (first
    | ((with_reducible refine wpList_loadG (P := Tryz.prog) (w := y0) (ty := 39) (x := .tmp 28) (p := .pointer (some ⟨q5, 1, none⟩)) (v := .agg #[.int .u64 l, .int .u64 g]) ?_ ?_ ?_ HCR.out ?_); rotate_left; (· exact rfl); (· exact rfl); rotate_left; (· go_simp))
    | (go_at_call 18; (with_reducible refine (HCK.out _).mono ?_); rintro e y1 ⟨he, hb⟩; obtain rfl : e = _ := he; have H1 : Hid (IsTab y1 q5 41 35 (rlv D l g s) ∧ IsTab y1 (q5 + 1) 29 32 (fun i => bv (v i)) ∧ Below w.heap.size w y1) := Lib.hid ⟨IsTab.below H0.out.1 hb, IsTab.below H0.out.2.1 hb, bl (by rw [HQ5.out]; exact H0.out.2.2) hb⟩; clear hb))
  clear c0 HCR H0 t1 t2 t3 HCK
  go_upto_region 8 with (go_at_call 19; (with_reducible refine (HMK.out _).mono ?_); rintro e y2 ⟨he, n, hy⟩; obtain rfl : e = _ := he; have H2 : Hid (IsTab y2 q5 41 35 (rlv D l g s) ∧ IsTab y2 (q5 + 1) 29 32 (fun i => bv (v i)) ∧ Below w.heap.size w y2) := Lib.hid (by
      have hb : Below y1.heap.size y1 y2 := Lk.below ⟨n, hy⟩
      exact ⟨IsTab.below H1.out.1 hb, IsTab.below H1.out.2.1 hb, bl H1.out.2.2 hb⟩); clear hy)
  clear H1 HMK
  go_upto_region 11 with (first
    | (go_at_call 15; (with_reducible refine (HBD.out _).mono ?_); rintro e y3 ⟨he, hy⟩; obtain rfl : e = _ := he; obtain rfl : _ = y3 := hy)
    | (go_at_call 20; (with_reducible refine (HLK.out _ (Led.is_below HL.out H2.out.2.2)).mono ?_); rintro e y4 ⟨he, hl, hm⟩; obtain rfl : e = _ := he; have H4 : Hid (IsTab y4 q5 41 35 (rlv D l g s) ∧ IsTab y4 (q5 + 1) 29 32 (fun i => bv (v i)) ∧ IsLed y4 b L2 ∧ Moves b w y4 ∧ Below w.heap.size w y2 ∧ y2.heap.size ≤ y4.heap.size) := Lib.hid (by
        have no : ∀ k, w.heap.size ≤ k → ¬ OwnL y2 b k := fun k hk ho => by
          have := own_lt HL.out (own_below HL.out H2.out.2.2 ho); omega
        have e5 := HQ5.out
        exact ⟨(hm.kept.block _ (IsTab.lt H2.out.1) (no _ (by omega))).trans H2.out.1, (hm.kept.block _ (IsTab.lt H2.out.2.1) (no _ (by omega))).trans H2.out.2.1, hl, Led.moves_trans (Led.moves_of_below HL.out H2.out.2.2) hm, H2.out.2.2, hm.kept.size⟩); clear hl hm))
  clear H2 HLK HBD
  have HSZ : Hid (w.heap.size ≤ y4.heap.size) := Lib.hid (by have h1 := H4.out.2.2.2.2.1.size; have h2 := H4.out.2.2.2.2.2; omega)
  have HLV := Lib.hid (load32h H4.out.2.1)
  rw [show dv v = .agg va from by unfold dv; rw [HVA.out]] at HLV
  refine wp_region_lit ?_
  refine wpList_plain rfl fun K' hK' => ?_
  go_simp
  refine hK' _ _ ?_
  clear hK' K'
  try simp only [Act.put, pS]
  ((with_reducible refine wpList_loadE (P := Tryz.prog) (w := y4) (ty := 29) (x := .tmp 8) (p := .pointer (some ⟨q5 + 1, 0, none⟩)) (v := .agg va) ?_ ?_ ?_ HLV.out ?_); (· exact rfl); (· exact rfl); (· exact rfl))
  try simp only [Act.put, pS]
  refine wpList_plain rfl fun K' hK' => ?_
  go_simp
  refine hK' _ _ ?_
  clear hK' K'
  try simp only [Act.put, pS]
  refine wpList_plain rfl fun K' hK' => ?_
  go_simp
  refine hK' _ _ ?_
  clear hK' K'
  try simp only [Act.put, pS]
  refine wpList_plain rfl fun K' hK' => ?_
  go_simp
  refine hK' _ _ ?_
  clear hK' K'
  try simp only [Act.put, pS]
  refine wpList_plain rfl fun K' hK' => ?_
  go_simp
  refine hK' _ _ ?_
  clear hK' K'
  try simp only [Act.put, pS]
  refine wpList_plain rfl fun K' hK' => ?_
  go_simp
  refine hK' _ _ ?_
  clear hK' K'
  try simp only [Act.put, pS]
  refine wpList_buildE rfl 33 #[(0, .const (.int .i64 (-1))), (1, .tmp 55), (2, .tmp 56), (3, .tmp 57), (4, .tmp 58), (5, .tmp 60), (9, .tmp 61)] rfl #[(0, .int .i64 (-1)), (1, .int .u64 1), (2, .agg va), (3, .int .i64 p), (4, .int .i64 k), (5, .agg #[.int .u64 0, .int .u64 now]), (9, .int .i64 p)] ?_ (.agg (tab 42 (clv x1))) (HBF.out _) ?_
  · simp only [List.map_toArray, List.map_cons, List.map_nil]; rfl
  try simp only [Act.put, pS]
  go_upto_region 12 with (first
    | ((with_reducible refine wpList_store_row (P := Tryz.prog) (w := y4.alloc (.cells zs 33)) ?_ 33 (.tmp 15) (.tmp 62) ?_ y4.heap.size (tab 42 (clv x1)) ?_ ?_ 33 zs (heap_alloc_last y4 _) (infCl _) ?_ (tab_one fun i => clv_one _ _) ?_); (· exact rfl); (· exact rfl); (· exact rfl); (· exact rfl); (· rw [HZS.out.1, tab_size]); rw [World.setRow_alloc_new]; simp only [Act.put]))
  have H5 : Hid (IsTab (y4.alloc (.cells (tab 42 (clv x1)) 33)) q5 41 35 (rlv D l g s) ∧ IsCb (y4.alloc (.cells (tab 42 (clv x1)) 33)) y4.heap.size x1 ∧ IsLed (y4.alloc (.cells (tab 42 (clv x1)) 33)) b L2 ∧ Moves b w (y4.alloc (.cells (tab 42 (clv x1)) 33)) ∧ w.heap.size ≤ (y4.alloc (.cells (tab 42 (clv x1)) 33)).heap.size) := Lib.hid
    ⟨IsTab.alloc H4.out.1 _, IsTab.new y4 _ 42 _, Led.is_below H4.out.2.2.1 (bal _ _), Led.moves_trans H4.out.2.2.2.1 (Led.moves_of_below H4.out.2.2.1 (bal _ _)), by have := HSZ.out; simp; omega⟩
  clear H4 HSZ HLV
  generalize y4.alloc (.cells (tab 42 (clv x1)) 33) = y5 at *
  generalize y4.heap.size = q15 at *
  have HLR := Lib.hid (loadRl H5.out.1)
  rw [HRS.out] at HLR
  have HLC := Lib.hid (loadCb H5.out.2.1)
  refine wp_region_lit ?_
  ((with_reducible refine wpList_loadE (P := Tryz.prog) (w := y5) (ty := 41) (x := .tmp 5) (p := .pointer (some ⟨q5, 0, none⟩)) (v := .agg rs) ?_ ?_ ?_ HLR.out ?_); (· exact rfl); (· exact rfl); (· exact rfl))
  try simp only [Act.put, pS]
  refine wpList_plain rfl fun K' hK' => ?_
  go_simp
  refine hK' _ _ ?_
  clear hK' K'
  try simp only [Act.put, pS]
  ((with_reducible refine wpList_loadE (P := Tryz.prog) (w := y5) (ty := 33) (x := .tmp 15) (p := .pointer (some ⟨q15, 0, none⟩)) (v := .agg (tab 42 (clv x1))) ?_ ?_ ?_ HLC.out ?_); (· exact rfl); (· exact rfl); (· exact rfl))
  try simp only [Act.put, pS]
  refine wpList_buildSl rfl 72 1 #[(0, .tmp 65)] rfl #[(0, .agg (tab 42 (clv x1)))] ?_ (.slice (some ⟨y5.heap.size, 0, none⟩) 1 1) (y5.alloc (.cells (tab 42 (clv x1)) 33)) (HBS.out x1 y5) ?_
  · simp only [List.map_toArray, List.map_cons, List.map_nil]; rfl
  try simp only [Act.put, pS]
  refine wpList_buildE rfl 74 #[(0, .tmp 63), (1, .tmp 64), (2, .tmp 66)] rfl #[(0, .agg rs), (1, .pointer (some ⟨b, 0, none⟩)), (2, .slice (some ⟨y5.heap.size, 0, none⟩) 1 1)] ?_ (.agg (tab 37 (gmc D l g s b (.slice (some ⟨y5.heap.size, 0, none⟩) 1 1)))) (HBG.out _ _ _ _) ?_
  · simp only [List.map_toArray, List.map_cons, List.map_nil]; rfl
  try simp only [Act.put, pS]
  have H6 : Hid (IsTab (y5.alloc (.cells (tab 42 (clv x1)) 33)) y5.heap.size 33 42 (clv x1) ∧ IsLed (y5.alloc (.cells (tab 42 (clv x1)) 33)) b L2 ∧ Moves b w (y5.alloc (.cells (tab 42 (clv x1)) 33)) ∧ w.heap.size ≤ y5.heap.size ∧ (y5.alloc (.cells (tab 42 (clv x1)) 33)).heap.size = y5.heap.size + 1 ∧ ∀ k, OwnL (y5.alloc (.cells (tab 42 (clv x1)) 33)) b k → k < y5.heap.size) := Lib.hid
    ⟨IsTab.new y5 _ 42 _, Led.is_below H5.out.2.2.1 (bal _ _), Led.moves_trans H5.out.2.2.2.1 (Led.moves_of_below H5.out.2.2.1 (bal _ _)), H5.out.2.2.2.2, by simp, fun k hk => own_lt H5.out.2.2.1 (own_below H5.out.2.2.1 (bal _ _) hk)⟩
  clear H5 HLR HLC
  generalize y5.alloc (.cells (tab 42 (clv x1)) 33) = y6 at *
  generalize y5.heap.size = qa at *
  obtain ⟨gv, hgv⟩ : ∃ gv, tab 37 (gmc D l g s b (.slice (some ⟨qa, 0, none⟩) 1 1)) = gv := ⟨_, rfl⟩
  have H7 : Hid (IsTab (y6.alloc (.cells gv 74)) y6.heap.size 74 37 (gmc D l g s b (.slice (some ⟨qa, 0, none⟩) 1 1)) ∧ IsTab (y6.alloc (.cells gv 74)) qa 33 42 (clv x1)) := Lib.hid ⟨by rw [← hgv]; exact IsTab.new y6 _ 37 _, IsTab.alloc H6.out.1 _⟩
  rw [hgv]
  clear hgv
  go_wp2_with (fail)
  exact bodyPost_ret (v := .tuple #[.pointer (some ⟨y6.heap.size, 0, none⟩), .nilIface]) (by simp [results, Tryz.results6, go_sem]) rfl ⟨_, _, rfl, IsGm.first H7.out.1 H7.out.2 (by have := H6.out.2.2.2.2.1; omega), Led.is_below H6.out.2.1 (bal _ _), by have h1 := H6.out.2.2.2.2.1; have h2 := H6.out.2.2.2.1; omega, H6.out.2.2.2.1, fun k hk => by
    have h1 := H6.out.2.2.2.2.2 k (own_below H6.out.2.1 (bal _ _) hk)
    have h2 := H6.out.2.2.2.2.1
    omega, Led.moves_trans H6.out.2.2.1 (Led.moves_of_below H6.out.2.1 (bal _ _))⟩
end Gm
end Go.Proofs.YtnaamljflcgepaaGreatDoor
