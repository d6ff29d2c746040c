/-
  mootlaw10.fixed: a machine of four words. Written by genYh.py. Own work.
-/
import Derived.Test.YtdmffnjbholkkaaDoorYg
import Derived.Test.YtdmffnjbholkkaaDoorApp
namespace Go.Proofs.YtdmffnjbholkkaaDoor
open Go.RowKit
set_option linter.unusedVariables false
set_option linter.unusedSimpArgs false
namespace Vm
open Kc
def fx : List Int := [26, 1, 0, 0, 0, 5, 26, 2, 0, 0, 0, -3, 1, 3, 1, 2, 0, 0, 0, 0, 3, 0, 0, 0]
def ws : List Nat := [1878001044613496837, 1882504648535834621, 85885052268838912, 844424930131968]
def wv' (x : Nat) : Value := .int .u64 (x : Int)
structure Fx (W : World) (q k : Nat) (V : Value) (y : World) : Prop where
  tab : IsTab y q 147 24 fun i => .int .i64 (fx.getD i 0)
  row : y.ownsRow (q + 1) 78 1 V k ((ws.take k).map wv')
  below : Below W.heap.size W y
  q0 : W.heap.size = q
theorem infoW : ∃ i, Tryd.prog.info? 78 = some i ∧ i.zero = some (.int .u64 0) ∧ i.size = 1 ∧ i.bytes = 8 := by
  refine ⟨(Tryd.prog.info? 78).get (by kernel_rfl), by kernel_rfl, by kernel_rfl, by kernel_rfl, by kernel_rfl⟩
theorem cV0 : codeV (26) (1) (0) (0) (0) (5) = .tuple #[.int .u64 1878001044613496837, .nilIface] := by
  unfold codeV
  rw [if_pos (by decide)]
  rfl
theorem code0 (y : World) : Calls Tryd.prog 42 #[.int .i64 26, .int .i64 1, .int .i64 0, .int .i64 0, .int .i64 0, .int .i64 5] y fun e w' => e = .returned (.tuple #[.int .u64 1878001044613496837, .nilIface]) ∧ y = w' := by
  have := code_walk y (26) (1) (0) (0) (0) (5)
  rw [cV0] at this
  exact this
theorem cV1 : codeV (26) (2) (0) (0) (0) (-3) = .tuple #[.int .u64 1882504648535834621, .nilIface] := by
  unfold codeV
  rw [if_pos (by decide)]
  rfl
theorem code1 (y : World) : Calls Tryd.prog 42 #[.int .i64 26, .int .i64 2, .int .i64 0, .int .i64 0, .int .i64 0, .int .i64 (-3)] y fun e w' => e = .returned (.tuple #[.int .u64 1882504648535834621, .nilIface]) ∧ y = w' := by
  have := code_walk y (26) (2) (0) (0) (0) (-3)
  rw [cV1] at this
  exact this
theorem cV2 : codeV (1) (3) (1) (2) (0) (0) = .tuple #[.int .u64 85885052268838912, .nilIface] := by
  unfold codeV
  rw [if_pos (by decide)]
  rfl
theorem code2 (y : World) : Calls Tryd.prog 42 #[.int .i64 1, .int .i64 3, .int .i64 1, .int .i64 2, .int .i64 0, .int .i64 0] y fun e w' => e = .returned (.tuple #[.int .u64 85885052268838912, .nilIface]) ∧ y = w' := by
  have := code_walk y (1) (3) (1) (2) (0) (0)
  rw [cV2] at this
  exact this
theorem cV3 : codeV (0) (0) (3) (0) (0) (0) = .tuple #[.int .u64 844424930131968, .nilIface] := by
  unfold codeV
  rw [if_pos (by decide)]
  rfl
theorem code3 (y : World) : Calls Tryd.prog 42 #[.int .i64 0, .int .i64 0, .int .i64 3, .int .i64 0, .int .i64 0, .int .i64 0] y fun e w' => e = .returned (.tuple #[.int .u64 844424930131968, .nilIface]) ∧ y = w' := by
  have := code_walk y (0) (0) (3) (0) (0) (0)
  rw [cV3] at this
  exact this
theorem Fx.below' {W y y' : World} {q k : Nat} {V : Value} (h : Fx W q k V y) (hb : Below y.heap.size y y') : Fx W q k V y' :=
  ⟨h.tab.below hb, (Kept.ofBelow (S := fun _ => False) hb).row h.row (fun _ _ h => h), bl h.below hb, h.q0⟩
theorem Fx.grown {W y y' : World} {q k : Nat} {V V' : Value} (h : Fx W q k V y) (x : Nat) (hx : (ws.take k).map wv' ++ [.int .u64 (x : Int)] = (ws.take (k + 1)).map wv')
    (hr : y'.ownsRow (q + 1) 78 1 V' (k + 1) ((ws.take k).map wv' ++ [.int .u64 (x : Int)])) (hg : y.grownBy y' V.ownBlock) : Fx W q (k + 1) V' y' := by
  have hne : ∀ j, V.ownBlock = some j → q + 1 ≤ j := fun j hj => owns_base h.row hj
  refine ⟨?_, by rw [← hx]; exact hr, below_grown (Nat.le_refl _) h.below hg fun j hj => by have := hne j hj; have := h.q0; omega, h.q0⟩
  have := hg.block q h.tab.lt (fun e => by have := hne q e.symm; omega)
  exact this.trans h.tab
/-- The four machines' beginning, and their steps. -/
def wf (j : Nat) : Nat := ws.getD j 0
def fm : Nat → Mac
  | 0 => loaded 4 wf
  | 1 => { setR (loaded 4 wf) 1 5 with pc := 1 }
  | 2 => { setR (setR (loaded 4 wf) 1 5) 2 18446744073709551613 with pc := 2 }
  | 3 => { setR (setR (setR (loaded 4 wf) 1 5) 2 18446744073709551613) 3 2 with pc := 3 }
  | _ => stopM { setR (setR (setR (loaded 4 wf) 1 5) 2 18446744073709551613) 3 2 with pc := 4 } 2
theorem wf_lt (j : Nat) : wf j < 18446744073709551616 := by
  unfold wf ws
  rcases j with _ | _ | _ | _ | j <;> simp
theorem ok_loaded (n : Nat) (g : Nat → Nat) (h : ∀ i, g i < 18446744073709551616) : OkM (loaded n g) := by
  refine ⟨fun i => ?_, fun i => by unfold loaded; simp, by unfold loaded; simp, by unfold loaded; simp⟩
  unfold loaded
  simp only
  split
  · exact h i
  · decide
theorem ok_setR {M : Mac} (h : OkM M) (d v : Nat) (hv : v < 18446744073709551616) : OkM (setR M d v) := by
  refine ⟨h.mem, fun i => ?_, h.pc, h.exit⟩
  unfold setR
  simp only
  split
  · exact hv
  · exact h.reg i
theorem ok_pc {M : Mac} (h : OkM M) (p : Nat) (hp : p < 18446744073709551616) : OkM { M with pc := p } := ⟨h.mem, h.reg, hp, h.exit⟩
set_option maxHeartbeats 400000 in
theorem apply_add (a b c : Int) (w : World) (ha : 0 ≤ a) (hb : 0 ≤ b) :
    Calls Tryd.prog 79 #[.int .i64 1, .int .u64 a, .int .u64 b, .int .u64 c] w fun e w' => e = .returned (.tuple #[.int .u64 (IntKind.u64.wrap (a + b)), .nilIface]) ∧ w = w' := by
  go_enter Tryd.func79, Tryd.ntmps79
  go_wp2
  go_ret2
  exact ⟨rfl, rfl⟩
/-- The machine's step, from each of the four. -/
theorem fm_step (b s i : Nat) (W y : World) (hi : i < 4) (hb : W.heap.size ≤ b) (h : IsMac y b (fm i) ∧ Below W.heap.size W y) :
    Calls Tryd.prog 65 #[.pointer (some ⟨b, 0, none⟩), .pointer (some ⟨s, 0, none⟩)] y fun e w' => e = .returned (.tuple #[]) ∧ (IsMac w' b (fm (i + 1)) ∧ Below W.heap.size W w') := by
  have fin : ∀ {w' : World} {M' : Mac}, IsMac w' b M' → M' = fm (i + 1) → Kept (fun k => k = b) y w' → IsMac w' b (fm (i + 1)) ∧ Below W.heap.size W w' := fun h1 h2 h3 => ⟨h2 ▸ h1, Wt.below_of h.2 h3 fun j _ hj => by rw [hj]; exact hb⟩
  have hi4 : i = 0 ∨ i = 1 ∨ i = 2 ∨ i = 3 := by omega
  rcases hi4 with rfl | rfl | rfl | rfl
  · refine (step_li y b s (fm 0) (ws.getD 0 0) ⟨h.1, ok_loaded 4 wf wf_lt, rfl, by decide, rfl, by decide⟩ (by decide)).mono ?_
    rintro e w' ⟨he, h1, h2⟩
    exact ⟨he, fin h1 (by rfl) h2⟩
  · refine (step_li y b s (fm 1) (ws.getD 1 0) ⟨h.1, ok_pc (ok_setR (ok_loaded 4 wf wf_lt) 1 5 (by decide)) 1 (by decide), rfl, by decide, rfl, by decide⟩ (by decide)).mono ?_
    rintro e w' ⟨he, h1, h2⟩
    exact ⟨he, fin h1 (by rfl) h2⟩
  · refine (step_app y b s (fm 2) (ws.getD 2 0) ⟨h.1, ok_pc (ok_setR (ok_setR (ok_loaded 4 wf wf_lt) 1 5 (by decide)) 2 _ (by decide)) 2 (by decide), rfl, by decide, rfl, by decide⟩ (by decide) 2 .nilIface (fun z => apply_add 5 18446744073709551613 0 z (by decide) (by decide))).mono ?_
    rintro e w' ⟨he, h1, h2⟩
    exact ⟨he, fin h1 (by rfl) h2⟩
  · refine (step_halt y b s (fm 3) (ws.getD 3 0) ⟨h.1, ok_pc (ok_setR (ok_setR (ok_setR (ok_loaded 4 wf wf_lt) 1 5 (by decide)) 2 _ (by decide)) 3 2 (by decide)) 3 (by decide), rfl, by decide, rfl, by decide⟩ (by decide)).mono ?_
    rintro e w' ⟨he, h1, h2⟩
    exact ⟨he, fin h1 (by rfl) h2⟩
/-- A row of words of the call's own, as a slice. -/
theorem ws_of {w : World} {q n : Nat} {V : Value} (l : List Nat) (hn : n = l.length) (h : w.ownsRow q 78 1 V n (l.map wv')) (h0 : 0 < n) :
    ∃ g cap, V = .slice (some ⟨g, 0, none⟩) n cap ∧ IsWs w g 0 n fun j => l.getD j 0 := by
  subst hn
  obtain ⟨_, h1⟩ := h
  rcases h1 with ⟨rfl, e⟩ | ⟨g, cap, cur, rfl, hg, hc, hnc, hm, hs, ht⟩
  · omega
  · refine ⟨g, cap, rfl, fun j hj => ?_⟩
    have e1 : (cur.toList.take (l.length * 1))[j]? = (l.map wv')[j]? := by rw [ht]
    rw [List.getElem?_take, if_pos (by omega)] at e1
    rw [Nat.zero_add, cell_of_row w g j _ _ _ hc]
    have e2 : cur[j]? = (l.map wv')[j]? := by simpa using e1
    rw [e2]
    simp [hj, wv']
theorem fm_run (b s : Nat) (W y : World) (hb : W.heap.size ≤ b) (hm : IsMac y b (loaded 4 wf)) (hB : Below W.heap.size W y) :
    Calls Tryd.prog 37 #[.pointer (some ⟨b, 0, none⟩), .pointer (some ⟨s, 0, none⟩), .int .i64 99] y fun e w' => e = .returned (.tuple #[.int .i64 4, .nilIface]) ∧ (IsMac w' b (fm 4) ∧ Below W.heap.size W w') :=
  run_walk b s 99 4 fm (fun i y => IsMac y b (fm i) ∧ Below W.heap.size W y) (fun i y h => h.1) (fun i y hi h => fm_step b s i W y hi hb h) (by decide)
    (fun i hi => by
      have : i = 0 ∨ i = 1 ∨ i = 2 ∨ i = 3 := by omega
      rcases this with rfl | rfl | rfl | rfl <;> rfl) (.inr rfl) (by decide) y ⟨hm, hB⟩
set_option maxHeartbeats 2000000 in
set_option maxRecDepth 100000 in
theorem fixed10_walk (w : World) (ht : Laid.KTab w) (hlo : Wt.lowB ≤ w.heap.size) : Calls Tryd.prog 35 #[] w fun e w' => e = .returned (.bool true) ∧ Below w.heap.size w w' := by
  obtain ⟨i0, hi0⟩ := infoW
  have HI := Lib.hid hi0
  have H0 : Hid (Fx w w.heap.size 0 (.slice none 0 0) (w.alloc (.cells #[.int .i64 26, .int .i64 1, .int .i64 0, .int .i64 0, .int .i64 0, .int .i64 5, .int .i64 26, .int .i64 2, .int .i64 0, .int .i64 0, .int .i64 0, .int .i64 (-3), .int .i64 1, .int .i64 3, .int .i64 1, .int .i64 2, .int .i64 0, .int .i64 0, .int .i64 0, .int .i64 0, .int .i64 3, .int .i64 0, .int .i64 0, .int .i64 0] 147))) := Lib.hid
    ⟨IsTab.new w _ 24 fun i => .int .i64 (fx.getD i 0), World.ownsRow_nil _ _ _ _, (Below.refl _ _).alloc (Nat.le_refl _) _, rfl⟩
  have HKT := Lib.hid (And.intro ht hlo)
  clear ht hlo hi0
  go_enter Tryd.func35, Tryd.ntmps35
  go_upto_region 3 with (fail)
  generalize w.alloc (.cells #[.int .i64 26, .int .i64 1, .int .i64 0, .int .i64 0, .int .i64 0, .int .i64 5, .int .i64 26, .int .i64 2, .int .i64 0, .int .i64 0, .int .i64 0, .int .i64 (-3), .int .i64 1, .int .i64 3, .int .i64 1, .int .i64 2, .int .i64 0, .int .i64 0, .int .i64 0, .int .i64 0, .int .i64 3, .int .i64 0, .int .i64 0, .int .i64 0] 147) = y0 at *
  generalize w.heap.size = q at *
  go_loopw [15, 1] (fun t V y => ∃ k : Nat, k ≤ 4 ∧ t = .int .i64 k ∧ Hid (Fx w q k V y)) (fun t _ _ => 4 - (intOf t).toNat)
  case atStart => exact ⟨0, by decide, rfl, H0⟩
  case round =>
    obtain ⟨k, hk, rfl, hp⟩ := hrel
    have HP := Lib.hid hp.out
    clear hp H0
    have hk5 : k = 0 ∨ k = 1 ∨ k = 2 ∨ k = 3 ∨ k = 4 := by omega
    clear hk
    rcases hk5 with rfl | rfl | rfl | rfl | rfl
    · skip
      have c0 : wr.cell? ⟨q, 0, none⟩ = some (.int .i64 26) := HP.out.tab.cell 0 (by decide)
      have c1 : wr.cell? ⟨q, 1, none⟩ = some (.int .i64 1) := HP.out.tab.cell 1 (by decide)
      have c2 : wr.cell? ⟨q, 2, none⟩ = some (.int .i64 0) := HP.out.tab.cell 2 (by decide)
      have c3 : wr.cell? ⟨q, 3, none⟩ = some (.int .i64 0) := HP.out.tab.cell 3 (by decide)
      have c4 : wr.cell? ⟨q, 4, none⟩ = some (.int .i64 0) := HP.out.tab.cell 4 (by decide)
      have c5 : wr.cell? ⟨q, 5, none⟩ = some (.int .i64 5) := HP.out.tab.cell 5 (by decide)
      go_upto_region 5 with (fail)
      have HP1 := Lib.hid (HP.out.below' ((Below.refl wr.heap.size wr).alloc (Nat.le_refl _) (.cells #[.int .i64 26, .int .i64 1, .int .i64 0, .int .i64 0, .int .i64 0, .int .i64 5] 147)))
      have HD : Hid (IsTab (wr.alloc (.cells #[.int .i64 26, .int .i64 1, .int .i64 0, .int .i64 0, .int .i64 0, .int .i64 5] 147)) wr.heap.size 147 6 fun i => .int .i64 (([26, 1, 0, 0, 0, 5] : List Int).getD i 0)) := Lib.hid (IsTab.new wr _ 6 fun i => .int .i64 (([26, 1, 0, 0, 0, 5] : List Int).getD i 0))
      clear c0 c1 c2 c3 c4 c5 HP
      generalize wr.alloc (.cells #[.int .i64 26, .int .i64 1, .int .i64 0, .int .i64 0, .int .i64 0, .int .i64 5] 147) = y1 at *
      generalize wr.heap.size = qa at *
      have c0 : y1.cell? ⟨qa, 0, none⟩ = some (.int .i64 26) := HD.out.cell 0 (by decide)
      have c1 : y1.cell? ⟨qa, 1, none⟩ = some (.int .i64 1) := HD.out.cell 1 (by decide)
      have c2 : y1.cell? ⟨qa, 2, none⟩ = some (.int .i64 0) := HD.out.cell 2 (by decide)
      have c3 : y1.cell? ⟨qa, 3, none⟩ = some (.int .i64 0) := HD.out.cell 3 (by decide)
      have c4 : y1.cell? ⟨qa, 4, none⟩ = some (.int .i64 0) := HD.out.cell 4 (by decide)
      have c5 : y1.cell? ⟨qa, 5, none⟩ = some (.int .i64 5) := HD.out.cell 5 (by decide)
      have HC := Lib.hid (code0 y1)
      go_upto_region 8 with (go_at_call 42; (with_reducible refine HC.out.mono ?_); rintro e y2 ⟨he, hy⟩; obtain rfl : e = _ := he; subst hy)
      clear c0 c1 c2 c3 c4 c5 HD HC
      have HP2 := Lib.hid (HP1.out.below' ((Below.refl y1.heap.size y1).alloc (Nat.le_refl _) (.cells #[.int .u64 1878001044613496837] 78)))
      have HQ : Hid (q + 1 ≤ (y1.alloc (.cells #[.int .u64 1878001044613496837] 78)).heap.size) := Lib.hid (by have := HP2.out.tab.lt; omega)
      go_wp2_with (refine wpList_append_at _ rfl (.tmp 37) (.tmp 39) 93 rfl (q + 1) 78 i0 (.int .u64 0) 1 8 undW HI.out rfl (by decide) u1 0 ((ws.take 0).map wv') rfl HP2.out.row ⟨y1.heap.size, 0, none⟩ 1 1 [.int .u64 1878001044613496837] rfl rfl (one_at rfl _ _) (by intro u hu; simp at hu; subst hu; rfl) (by decide) (by decide) HQ.out ?_; intro V3 y3 hown3 hgr3 hat3; have HF3 := Lib.hid (HP2.out.grown 1878001044613496837 rfl hown3 hgr3); clear hown3 hgr3 hat3)
      go_roundw
      case rel => exact ⟨1, by decide, rfl, HF3⟩
      case measure => simp [intOf]
    · skip
      have c0 : wr.cell? ⟨q, 6, none⟩ = some (.int .i64 26) := HP.out.tab.cell 6 (by decide)
      have c1 : wr.cell? ⟨q, 7, none⟩ = some (.int .i64 2) := HP.out.tab.cell 7 (by decide)
      have c2 : wr.cell? ⟨q, 8, none⟩ = some (.int .i64 0) := HP.out.tab.cell 8 (by decide)
      have c3 : wr.cell? ⟨q, 9, none⟩ = some (.int .i64 0) := HP.out.tab.cell 9 (by decide)
      have c4 : wr.cell? ⟨q, 10, none⟩ = some (.int .i64 0) := HP.out.tab.cell 10 (by decide)
      have c5 : wr.cell? ⟨q, 11, none⟩ = some (.int .i64 (-3)) := HP.out.tab.cell 11 (by decide)
      go_upto_region 5 with (fail)
      have HP1 := Lib.hid (HP.out.below' ((Below.refl wr.heap.size wr).alloc (Nat.le_refl _) (.cells #[.int .i64 26, .int .i64 2, .int .i64 0, .int .i64 0, .int .i64 0, .int .i64 (-3)] 147)))
      have HD : Hid (IsTab (wr.alloc (.cells #[.int .i64 26, .int .i64 2, .int .i64 0, .int .i64 0, .int .i64 0, .int .i64 (-3)] 147)) wr.heap.size 147 6 fun i => .int .i64 (([26, 2, 0, 0, 0, -3] : List Int).getD i 0)) := Lib.hid (IsTab.new wr _ 6 fun i => .int .i64 (([26, 2, 0, 0, 0, -3] : List Int).getD i 0))
      clear c0 c1 c2 c3 c4 c5 HP
      generalize wr.alloc (.cells #[.int .i64 26, .int .i64 2, .int .i64 0, .int .i64 0, .int .i64 0, .int .i64 (-3)] 147) = y1 at *
      generalize wr.heap.size = qa at *
      have c0 : y1.cell? ⟨qa, 0, none⟩ = some (.int .i64 26) := HD.out.cell 0 (by decide)
      have c1 : y1.cell? ⟨qa, 1, none⟩ = some (.int .i64 2) := HD.out.cell 1 (by decide)
      have c2 : y1.cell? ⟨qa, 2, none⟩ = some (.int .i64 0) := HD.out.cell 2 (by decide)
      have c3 : y1.cell? ⟨qa, 3, none⟩ = some (.int .i64 0) := HD.out.cell 3 (by decide)
      have c4 : y1.cell? ⟨qa, 4, none⟩ = some (.int .i64 0) := HD.out.cell 4 (by decide)
      have c5 : y1.cell? ⟨qa, 5, none⟩ = some (.int .i64 (-3)) := HD.out.cell 5 (by decide)
      have HC := Lib.hid (code1 y1)
      go_upto_region 8 with (go_at_call 42; (with_reducible refine HC.out.mono ?_); rintro e y2 ⟨he, hy⟩; obtain rfl : e = _ := he; subst hy)
      clear c0 c1 c2 c3 c4 c5 HD HC
      have HP2 := Lib.hid (HP1.out.below' ((Below.refl y1.heap.size y1).alloc (Nat.le_refl _) (.cells #[.int .u64 1882504648535834621] 78)))
      have HQ : Hid (q + 1 ≤ (y1.alloc (.cells #[.int .u64 1882504648535834621] 78)).heap.size) := Lib.hid (by have := HP2.out.tab.lt; omega)
      go_wp2_with (refine wpList_append_at _ rfl (.tmp 37) (.tmp 39) 93 rfl (q + 1) 78 i0 (.int .u64 0) 1 8 undW HI.out rfl (by decide) u1 1 ((ws.take 1).map wv') rfl HP2.out.row ⟨y1.heap.size, 0, none⟩ 1 1 [.int .u64 1882504648535834621] rfl rfl (one_at rfl _ _) (by intro u hu; simp at hu; subst hu; rfl) (by decide) (by decide) HQ.out ?_; intro V3 y3 hown3 hgr3 hat3; have HF3 := Lib.hid (HP2.out.grown 1882504648535834621 rfl hown3 hgr3); clear hown3 hgr3 hat3)
      go_roundw
      case rel => exact ⟨2, by decide, rfl, HF3⟩
      case measure => simp [intOf]
    · skip
      have c0 : wr.cell? ⟨q, 12, none⟩ = some (.int .i64 1) := HP.out.tab.cell 12 (by decide)
      have c1 : wr.cell? ⟨q, 13, none⟩ = some (.int .i64 3) := HP.out.tab.cell 13 (by decide)
      have c2 : wr.cell? ⟨q, 14, none⟩ = some (.int .i64 1) := HP.out.tab.cell 14 (by decide)
      have c3 : wr.cell? ⟨q, 15, none⟩ = some (.int .i64 2) := HP.out.tab.cell 15 (by decide)
      have c4 : wr.cell? ⟨q, 16, none⟩ = some (.int .i64 0) := HP.out.tab.cell 16 (by decide)
      have c5 : wr.cell? ⟨q, 17, none⟩ = some (.int .i64 0) := HP.out.tab.cell 17 (by decide)
      go_upto_region 5 with (fail)
      have HP1 := Lib.hid (HP.out.below' ((Below.refl wr.heap.size wr).alloc (Nat.le_refl _) (.cells #[.int .i64 1, .int .i64 3, .int .i64 1, .int .i64 2, .int .i64 0, .int .i64 0] 147)))
      have HD : Hid (IsTab (wr.alloc (.cells #[.int .i64 1, .int .i64 3, .int .i64 1, .int .i64 2, .int .i64 0, .int .i64 0] 147)) wr.heap.size 147 6 fun i => .int .i64 (([1, 3, 1, 2, 0, 0] : List Int).getD i 0)) := Lib.hid (IsTab.new wr _ 6 fun i => .int .i64 (([1, 3, 1, 2, 0, 0] : List Int).getD i 0))
      clear c0 c1 c2 c3 c4 c5 HP
      generalize wr.alloc (.cells #[.int .i64 1, .int .i64 3, .int .i64 1, .int .i64 2, .int .i64 0, .int .i64 0] 147) = y1 at *
      generalize wr.heap.size = qa at *
      have c0 : y1.cell? ⟨qa, 0, none⟩ = some (.int .i64 1) := HD.out.cell 0 (by decide)
      have c1 : y1.cell? ⟨qa, 1, none⟩ = some (.int .i64 3) := HD.out.cell 1 (by decide)
      have c2 : y1.cell? ⟨qa, 2, none⟩ = some (.int .i64 1) := HD.out.cell 2 (by decide)
      have c3 : y1.cell? ⟨qa, 3, none⟩ = some (.int .i64 2) := HD.out.cell 3 (by decide)
      have c4 : y1.cell? ⟨qa, 4, none⟩ = some (.int .i64 0) := HD.out.cell 4 (by decide)
      have c5 : y1.cell? ⟨qa, 5, none⟩ = some (.int .i64 0) := HD.out.cell 5 (by decide)
      have HC := Lib.hid (code2 y1)
      go_upto_region 8 with (go_at_call 42; (with_reducible refine HC.out.mono ?_); rintro e y2 ⟨he, hy⟩; obtain rfl : e = _ := he; subst hy)
      clear c0 c1 c2 c3 c4 c5 HD HC
      have HP2 := Lib.hid (HP1.out.below' ((Below.refl y1.heap.size y1).alloc (Nat.le_refl _) (.cells #[.int .u64 85885052268838912] 78)))
      have HQ : Hid (q + 1 ≤ (y1.alloc (.cells #[.int .u64 85885052268838912] 78)).heap.size) := Lib.hid (by have := HP2.out.tab.lt; omega)
      go_wp2_with (refine wpList_append_at _ rfl (.tmp 37) (.tmp 39) 93 rfl (q + 1) 78 i0 (.int .u64 0) 1 8 undW HI.out rfl (by decide) u1 2 ((ws.take 2).map wv') rfl HP2.out.row ⟨y1.heap.size, 0, none⟩ 1 1 [.int .u64 85885052268838912] rfl rfl (one_at rfl _ _) (by intro u hu; simp at hu; subst hu; rfl) (by decide) (by decide) HQ.out ?_; intro V3 y3 hown3 hgr3 hat3; have HF3 := Lib.hid (HP2.out.grown 85885052268838912 rfl hown3 hgr3); clear hown3 hgr3 hat3)
      go_roundw
      case rel => exact ⟨3, by decide, rfl, HF3⟩
      case measure => simp [intOf]
    · skip
      have c0 : wr.cell? ⟨q, 18, none⟩ = some (.int .i64 0) := HP.out.tab.cell 18 (by decide)
      have c1 : wr.cell? ⟨q, 19, none⟩ = some (.int .i64 0) := HP.out.tab.cell 19 (by decide)
      have c2 : wr.cell? ⟨q, 20, none⟩ = some (.int .i64 3) := HP.out.tab.cell 20 (by decide)
      have c3 : wr.cell? ⟨q, 21, none⟩ = some (.int .i64 0) := HP.out.tab.cell 21 (by decide)
      have c4 : wr.cell? ⟨q, 22, none⟩ = some (.int .i64 0) := HP.out.tab.cell 22 (by decide)
      have c5 : wr.cell? ⟨q, 23, none⟩ = some (.int .i64 0) := HP.out.tab.cell 23 (by decide)
      go_upto_region 5 with (fail)
      have HP1 := Lib.hid (HP.out.below' ((Below.refl wr.heap.size wr).alloc (Nat.le_refl _) (.cells #[.int .i64 0, .int .i64 0, .int .i64 3, .int .i64 0, .int .i64 0, .int .i64 0] 147)))
      have HD : Hid (IsTab (wr.alloc (.cells #[.int .i64 0, .int .i64 0, .int .i64 3, .int .i64 0, .int .i64 0, .int .i64 0] 147)) wr.heap.size 147 6 fun i => .int .i64 (([0, 0, 3, 0, 0, 0] : List Int).getD i 0)) := Lib.hid (IsTab.new wr _ 6 fun i => .int .i64 (([0, 0, 3, 0, 0, 0] : List Int).getD i 0))
      clear c0 c1 c2 c3 c4 c5 HP
      generalize wr.alloc (.cells #[.int .i64 0, .int .i64 0, .int .i64 3, .int .i64 0, .int .i64 0, .int .i64 0] 147) = y1 at *
      generalize wr.heap.size = qa at *
      have c0 : y1.cell? ⟨qa, 0, none⟩ = some (.int .i64 0) := HD.out.cell 0 (by decide)
      have c1 : y1.cell? ⟨qa, 1, none⟩ = some (.int .i64 0) := HD.out.cell 1 (by decide)
      have c2 : y1.cell? ⟨qa, 2, none⟩ = some (.int .i64 3) := HD.out.cell 2 (by decide)
      have c3 : y1.cell? ⟨qa, 3, none⟩ = some (.int .i64 0) := HD.out.cell 3 (by decide)
      have c4 : y1.cell? ⟨qa, 4, none⟩ = some (.int .i64 0) := HD.out.cell 4 (by decide)
      have c5 : y1.cell? ⟨qa, 5, none⟩ = some (.int .i64 0) := HD.out.cell 5 (by decide)
      have HC := Lib.hid (code3 y1)
      go_upto_region 8 with (go_at_call 42; (with_reducible refine HC.out.mono ?_); rintro e y2 ⟨he, hy⟩; obtain rfl : e = _ := he; subst hy)
      clear c0 c1 c2 c3 c4 c5 HD HC
      have HP2 := Lib.hid (HP1.out.below' ((Below.refl y1.heap.size y1).alloc (Nat.le_refl _) (.cells #[.int .u64 844424930131968] 78)))
      have HQ : Hid (q + 1 ≤ (y1.alloc (.cells #[.int .u64 844424930131968] 78)).heap.size) := Lib.hid (by have := HP2.out.tab.lt; omega)
      go_wp2_with (refine wpList_append_at _ rfl (.tmp 37) (.tmp 39) 93 rfl (q + 1) 78 i0 (.int .u64 0) 1 8 undW HI.out rfl (by decide) u1 3 ((ws.take 3).map wv') rfl HP2.out.row ⟨y1.heap.size, 0, none⟩ 1 1 [.int .u64 844424930131968] rfl rfl (one_at rfl _ _) (by intro u hu; simp at hu; subst hu; rfl) (by decide) (by decide) HQ.out ?_; intro V3 y3 hown3 hgr3 hat3; have HF3 := Lib.hid (HP2.out.grown 844424930131968 rfl hown3 hgr3); clear hown3 hgr3 hat3)
      go_roundw
      case rel => exact ⟨4, by decide, rfl, HF3⟩
      case measure => simp [intOf]
    · skip
      obtain ⟨g, cap, rfl, hw⟩ := ws_of (n := 4) (ws.take 4) rfl HP.out.row (by decide)
      have HLD := Lib.hid (load_walk wr g 0 4 cap wf hw (by decide))
      have HB0 : Hid (Below w.heap.size w wr ∧ w.heap.size ≤ wr.heap.size) := Lib.hid ⟨HP.out.below, HP.out.below.size⟩
      have HKW : Hid (Laid.KTab wr ∧ Wt.lowB ≤ wr.heap.size) := Lib.hid ⟨ktab_below HKT.out.1 HP.out.below, by have := HP.out.below.size; have := HP.out.q0; have := HKT.out.2; omega⟩
      clear hw HP HKT
      go_upto_region 11 with (go_at_call 39; (with_reducible refine HLD.out.mono ?_); rintro e y1 ⟨he, hm, hb⟩; obtain rfl : e = _ := he; have HM := Lib.hid hm; have HB := Lib.hid hb; clear hm hb)
      have HB1 : Hid (Below w.heap.size w y1 ∧ w.heap.size ≤ wr.heap.size) := Lib.hid ⟨bl HB0.out.1 HB.out, HB0.out.2⟩
      have HN := Lib.hid (Wt.New_walk y1 (ktab_below HKW.out.1 HB.out) (Nat.le_trans HKW.out.2 HB.out.size))
      clear HLD HB0 HKW HB
      generalize wr.heap.size = b at *
      go_upto_region 13 with (fail)
      go_wp2_with (first
        | (go_at_call 13; (with_reducible refine HN.out.mono ?_); rintro e y2 ⟨s, T, kb, fb, he, hst, hb, hx⟩; obtain rfl : e = _ := he; have HM2 := Lib.hid (HM.out.below hb); have HB2 : Hid (Below w.heap.size w y2) := Lib.hid (bl HB1.out.1 hb); have HR := Lib.hid (fm_run b s w y2 HB1.out.2 HM2.out HB2.out); clear hst hb hx HN)
        | (go_at_call 37; (with_reducible refine HR.out.mono ?_); rintro e y3 ⟨he, hm, hb⟩; obtain rfl : e = _ := he; have k1 : y3.cell? ⟨b, 8209, none⟩ = some (.bool true) := hm.halted; have k2 : y3.cell? ⟨b, 8210, none⟩ = some (.int .u64 2) := hm.exit; have HB3 := Lib.hid hb; clear hm hb HR))
      exact bodyPost_ret (v := .bool true) (by simp [results, Tryd.results35, go_sem]) rfl ⟨rfl, HB3.out⟩
end Vm
end Go.Proofs.YtdmffnjbholkkaaDoor
