/- Merged of Clk Krot Kprm Tab Qin Qtl K1 Eqa Mt Krows Tks. Own work. -/
import Derived.Test.YtnaamljflcgepaaGreatDoorP01
import Derived.Test.YtnaamljflcgepaaGreatDoorP02
import Derived.Outline
import Derived.Lib.Hide
import Derived.Deep.QuietTactic
import Derived.BigQuiet
import Derived.Test.YtnaamljflcgepaaGreatDoorRows
import Derived.LoopTactic
import Derived.Deep.Cut
import Derived.Deep.WholeRow
import Derived.Laws.Tables
import Derived.Deep.MidRow
import Derived.WalkKit
import Derived.StillTail
import Derived.Deep.Quiet
import Derived.RegionTactic
import Derived.IntWalk
import Derived.Laws.CopyOwn
import Derived.BigRegion
import Derived.StillTailTactics
import Derived.Laws.StructEq
import Derived.OrdersHeld
import Derived.Deep.RegionHeld3
namespace Go.Proofs.YtnaamljflcgepaaGreatDoor
open Go.RowKit
namespace Clk
/-- Are the rules such? -/
def ok (l g : Int) : Prop := 1 ≤ l ∧ l ≤ 1099511627776 ∧ g ≤ l
set_option maxHeartbeats 400000 in
theorem check_ok (l g : Int) (w : World) (h0 : 1 ≤ l) (h1 : l ≤ 1099511627776) (h3 : g ≤ l) :
    Calls Tryz.prog 18 #[.agg #[.int .u64 l, .int .u64 g]] w fun e w' => e = .returned .nilIface ∧ Below w.heap.size w w' := by
  go_enter Tryz.func18, Tryz.ntmps18
  go_wp2
  go_ret
  exact ⟨rfl, (Below.refl _ _).alloc (Nat.le_refl _) _⟩
set_option maxHeartbeats 400000 in
theorem check_bad (l g : Int) (w : World) (h : l < 1 ∨ 1099511627776 < l ∨ l < g) :
    Calls Tryz.prog 18 #[.agg #[.int .u64 l, .int .u64 g]] w fun e w' => e = .returned (.iface 55 (.int .i64 2)) ∧ Below w.heap.size w w' := by
  by_cases c1 : l < 1
  · go_enter Tryz.func18, Tryz.ntmps18
    go_wp2
    go_ret
    exact ⟨rfl, (Below.refl _ _).alloc (Nat.le_refl _) _⟩
  · by_cases c2 : 1099511627776 < l
    · go_enter Tryz.func18, Tryz.ntmps18
      go_wp2
      go_ret
      exact ⟨rfl, (Below.refl _ _).alloc (Nat.le_refl _) _⟩
    · have c3 : l < g := by omega
      go_enter Tryz.func18, Tryz.ntmps18
      go_wp2
      go_ret
      exact ⟨rfl, (Below.refl _ _).alloc (Nat.le_refl _) _⟩
set_option maxHeartbeats 400000 in
theorem spent_ok (u a b n : Int) (w : World) (h0 : 0 ≤ a) (h1 : a ≤ n) (h2 : n ≤ 1099511627776) (h3 : 0 ≤ u) (h4 : u ≤ 1099511627776) (h5 : 0 ≤ b) (h6 : b ≤ 1099511627776) :
    Calls Tryz.prog 50 #[.agg #[.int .u64 u, .int .u64 a], .int .u64 b, .int .u64 n] w fun e w' => e = .returned (.tuple #[.int .u64 (b + n - a), .nilIface]) ∧ Below w.heap.size w w' := by
  have hmx := @Mm.run_max4 Tryz.prog
  go_enter Tryz.func50, Tryz.ntmps50
  go_wp2
  go_ret2
  exact ⟨rfl, (Below.refl _ _).alloc (Nat.le_refl _) _⟩
set_option maxHeartbeats 400000 in
theorem spent_bad (u a b n : Int) (w : World) (h : n < a ∨ 1099511627776 < n ∨ 1099511627776 < u ∨ 1099511627776 < b) :
    Calls Tryz.prog 50 #[.agg #[.int .u64 u, .int .u64 a], .int .u64 b, .int .u64 n] w fun e w' => e = .returned (.tuple #[.int .u64 0, .iface 55 (.int .i64 2)]) ∧ Below w.heap.size w w' := by
  have hmx := @Mm.run_max4 Tryz.prog
  by_cases c1 : n < a
  · go_enter Tryz.func50, Tryz.ntmps50
    go_wp2
    go_ret2
    exact ⟨rfl, (Below.refl _ _).alloc (Nat.le_refl _) _⟩
  · have c2 : 1099511627776 < max u (max a (max b n)) := by omega
    go_enter Tryz.func50, Tryz.ntmps50
    go_wp2
    go_ret2
    exact ⟨rfl, (Below.refl _ _).alloc (Nat.le_refl _) _⟩

/-- Two boxes, then calls that only make new blocks. -/
theorem two {w W w1 : World} {a b : Array Value} {s t : TypeId} (hW : W = (w.alloc (.cells a s)).alloc (.cells b t)) (h : Below W.heap.size W w1) : Below w.heap.size w w1 := by
  subst hW
  exact (((Below.refl _ _).alloc (Nat.le_refl _) _).alloc (by simp) _).trans (h.mono (by simp; omega))
set_option maxHeartbeats 800000 in
theorem over_ok (l g u a b n : Int) (w : World) (r0 : 1 ≤ l) (r1 : l ≤ 1099511627776) (r3 : g ≤ l) (h0 : 0 ≤ a) (h1 : a ≤ n) (h2 : n ≤ 1099511627776) (h3 : 0 ≤ u) (h4 : u ≤ 1099511627776) (h5 : 0 ≤ b) (h6 : b ≤ 1099511627776) :
    Calls Tryz.prog 49 #[.agg #[.int .u64 l, .int .u64 g], .agg #[.int .u64 u, .int .u64 a], .int .u64 b, .int .u64 n] w fun e w' => e = .returned (.tuple #[.bool (decide (l ≤ b + n - a)), .nilIface]) ∧ Below w.heap.size w w' := by
  go_enter Tryz.func49, Tryz.ntmps49
  go_wp2_with fail
  refine (check_ok l g _ r0 r1 r3).mono ?_
  rintro e w1 ⟨rfl, hb1⟩
  obtain ⟨hc1, hf1⟩ := bcell hb1
  have hz1 : w.heap.size + 1 < w1.heap.size := by have := hb1.size; simp at this; omega
  have B1 := two rfl hb1
  go_wp2_with fail
  refine (spent_ok u a b n _ h0 h1 h2 h3 h4 h5 h6).mono ?_
  rintro e w2 ⟨rfl, hb2⟩
  obtain ⟨hc2, hf2⟩ := bcell hb2
  have B2 := blo B1 hb2 (by omega)
  have c1 := keep1 hb2 (x := .int .u64 l) (keep1 (o := 0) (b := w.heap.size) hb1 (by simp))
  clear hc1 hf1 hc2 hf2
  go_wp2_with fail
  go_ret2
  exact ⟨rfl, B2⟩
set_option maxHeartbeats 800000 in
theorem over_far (l g u a b n : Int) (w : World) (r0 : 1 ≤ l) (r1 : l ≤ 1099511627776) (r3 : g ≤ l) (h : n < a ∨ 1099511627776 < n ∨ 1099511627776 < u ∨ 1099511627776 < b) :
    Calls Tryz.prog 49 #[.agg #[.int .u64 l, .int .u64 g], .agg #[.int .u64 u, .int .u64 a], .int .u64 b, .int .u64 n] w fun e w' => e = .returned (.tuple #[.bool false, .iface 55 (.int .i64 2)]) ∧ Below w.heap.size w w' := by
  have H := Lib.hid h
  clear h
  go_enter Tryz.func49, Tryz.ntmps49
  go_wp2_with fail
  refine (check_ok l g _ r0 r1 r3).mono ?_
  rintro e w1 ⟨rfl, hb1⟩
  obtain ⟨hc1, hf1⟩ := bcell hb1
  have hz1 : w.heap.size + 1 < w1.heap.size := by have := hb1.size; simp at this; omega
  have B1 := two rfl hb1
  go_wp2_with fail
  refine (spent_bad u a b n _ H.out).mono ?_
  rintro e w2 ⟨rfl, hb2⟩
  obtain ⟨hc2, hf2⟩ := bcell hb2
  have B2 := blo B1 hb2 (by omega)
  go_wp2_with fail
  go_ret2
  exact ⟨rfl, B2⟩
theorem three {w W w1 : World} {a b c : Array Value} {s t u : TypeId} (hW : W = ((w.alloc (.cells a s)).alloc (.cells b t)).alloc (.cells c u)) (h : Below W.heap.size W w1) : Below w.heap.size w w1 := by
  subst hW
  exact ((((Below.refl _ _).alloc (Nat.le_refl _) _).alloc (by simp) _).alloc (by simp; omega) _).trans (h.mono (by simp; omega))
set_option maxHeartbeats 1600000 in
theorem next_ok (l g u a b n : Int) (w : World) (r0 : 1 ≤ l) (r1 : l ≤ 1099511627776) (r2 : 0 ≤ g) (r3 : g ≤ l) (h0 : 0 ≤ a) (h1 : a ≤ n) (h2 : n ≤ 1099511627776) (h3 : 0 ≤ u) (h4 : u ≤ 1099511627776) (h5 : 0 ≤ b) (h6 : b ≤ 1099511627776) (hs : b + n - a < l) :
    Calls Tryz.prog 30 #[.agg #[.int .u64 l, .int .u64 g], .agg #[.int .u64 u, .int .u64 a], .int .u64 b, .int .u64 n] w fun e w' => e = .returned (.tuple #[.agg #[.int .u64 (min (b + n - a) (l - g)), .int .u64 n], .nilIface]) ∧ Below w.heap.size w w' := by
  have hmn := @Mm.run_min2 Tryz.prog
  have hd : decide (l ≤ b + n - a) = false := by simp; omega
  go_enter Tryz.func30, Tryz.ntmps30
  go_wp2_with fail
  refine (over_ok l g u a b n _ r0 r1 r3 h0 h1 h2 h3 h4 h5 h6).mono ?_
  rintro e w1 ⟨rfl, hb1⟩
  rw [hd]
  obtain ⟨hc1, hf1⟩ := bcell hb1
  have hz1 : w.heap.size + 1 + 1 < w1.heap.size := by have := hb1.size; simp at this; omega
  go_wp2_with fail
  refine (spent_ok u a b n _ h0 h1 h2 h3 h4 h5 h6).mono ?_
  rintro e w2 ⟨rfl, hb2⟩
  obtain ⟨hc2, hf2⟩ := bcell hb2
  have hz2 : w.heap.size + 1 + 1 < w2.heap.size := by have := hb1.size; have := hb2.size; simp at *; omega
  have B1 := three rfl hb1
  have B2 := blo B1 hb2 (by omega)
  have c1 := keep1 hb2 (x := .int .u64 l) (keep1 (o := 0) (b := w.heap.size) hb1 (by simp [go_sem]))
  have c2 := keep1 hb2 (x := .int .u64 g) (keep1 (o := 1) (b := w.heap.size) hb1 (by simp [go_sem]))
  have d1 := keep1 hb2 (x := .int .u64 0) (keep1 (o := 0) (b := w.heap.size + 1 + 1) hb1 (by simp [go_sem]))
  have d2 := keep1 hb2 (x := .int .u64 0) (keep1 (o := 1) (b := w.heap.size + 1 + 1) hb1 (by simp [go_sem]))
  have f1 := keepF hb2 (by omega) (keepF (o := 0) (b := w.heap.size + 1 + 1) hb1 (by simp) (by simp [go_sem]))
  have f2 := keepF hb2 (by omega) (keepF (o := 1) (b := w.heap.size + 1 + 1) hb1 (by simp) (by simp [go_sem]))
  clear hc1 hf1 hc2 hf2
  go_wp2_with fail
  refine bodyPost_ret (v := .tuple #[.agg #[.int .u64 (min (b + n - a) (l - g)), .int .u64 n], .nilIface]) (by simp [results, Tryz.results30, go_sem, d1, d2]) rfl ⟨rfl, (B2.setCell (by simp; omega) _).setCell (by simp; omega) _⟩
set_option maxHeartbeats 800000 in
theorem next_out (l g u a b n : Int) (w : World) (r0 : 1 ≤ l) (r1 : l ≤ 1099511627776) (r3 : g ≤ l) (h0 : 0 ≤ a) (h1 : a ≤ n) (h2 : n ≤ 1099511627776) (h3 : 0 ≤ u) (h4 : u ≤ 1099511627776) (h5 : 0 ≤ b) (h6 : b ≤ 1099511627776) (hs : l ≤ b + n - a) :
    Calls Tryz.prog 30 #[.agg #[.int .u64 l, .int .u64 g], .agg #[.int .u64 u, .int .u64 a], .int .u64 b, .int .u64 n] w fun e w' => e = .returned (.tuple #[.agg #[.int .u64 0, .int .u64 0], .iface 55 (.int .i64 42)]) ∧ Below w.heap.size w w' := by
  have hd : decide (l ≤ b + n - a) = true := by simp; omega
  go_enter Tryz.func30, Tryz.ntmps30
  go_wp2_with fail
  refine (over_ok l g u a b n _ r0 r1 r3 h0 h1 h2 h3 h4 h5 h6).mono ?_
  rintro e w1 ⟨rfl, hb1⟩
  rw [hd]
  have hz1 : w.heap.size + 1 + 1 < w1.heap.size := by have := hb1.size; simp at this; omega
  have B1 := three rfl hb1
  have d1 := keep1 (x := .int .u64 0) (o := 0) (b := w.heap.size + 1 + 1) hb1 (by simp [go_sem])
  have d2 := keep1 (x := .int .u64 0) (o := 1) (b := w.heap.size + 1 + 1) hb1 (by simp [go_sem])
  have f1 := keepF (o := 0) (b := w.heap.size + 1 + 1) hb1 (by simp) (by simp [go_sem])
  have f2 := keepF (o := 1) (b := w.heap.size + 1 + 1) hb1 (by simp) (by simp [go_sem])
  go_wp2_with fail
  refine bodyPost_ret (v := .tuple #[.agg #[.int .u64 0, .int .u64 0], .iface 55 (.int .i64 42)]) (by simp [results, Tryz.results30, go_sem, d1, d2]) rfl ⟨rfl, by first | exact B1 | exact (B1.setCell (by simp; omega) _).setCell (by simp; omega) _⟩
set_option maxHeartbeats 800000 in
theorem next_far (l g u a b n : Int) (w : World) (r0 : 1 ≤ l) (r1 : l ≤ 1099511627776) (r3 : g ≤ l) (h : n < a ∨ 1099511627776 < n ∨ 1099511627776 < u ∨ 1099511627776 < b) :
    Calls Tryz.prog 30 #[.agg #[.int .u64 l, .int .u64 g], .agg #[.int .u64 u, .int .u64 a], .int .u64 b, .int .u64 n] w fun e w' => e = .returned (.tuple #[.agg #[.int .u64 0, .int .u64 0], .iface 55 (.int .i64 2)]) ∧ Below w.heap.size w w' := by
  have H := Lib.hid h
  clear h
  go_enter Tryz.func30, Tryz.ntmps30
  go_wp2_with fail
  refine (over_far l g u a b n _ r0 r1 r3 H.out).mono ?_
  rintro e w1 ⟨rfl, hb1⟩
  have hz1 : w.heap.size + 1 + 1 < w1.heap.size := by have := hb1.size; simp at this; omega
  have B1 := three rfl hb1
  have d1 := keep1 (x := .int .u64 0) (o := 0) (b := w.heap.size + 1 + 1) hb1 (by simp [go_sem])
  have d2 := keep1 (x := .int .u64 0) (o := 1) (b := w.heap.size + 1 + 1) hb1 (by simp [go_sem])
  have f1 := keepF (o := 0) (b := w.heap.size + 1 + 1) hb1 (by simp) (by simp [go_sem])
  have f2 := keepF (o := 1) (b := w.heap.size + 1 + 1) hb1 (by simp) (by simp [go_sem])
  go_wp2_with fail
  refine bodyPost_ret (v := .tuple #[.agg #[.int .u64 0, .int .u64 0], .iface 55 (.int .i64 2)]) (by simp [results, Tryz.results30, go_sem, d1, d2]) rfl ⟨rfl, by first | exact B1 | exact (B1.setCell (by simp; omega) _).setCell (by simp; omega) _⟩
end Clk
end Go.Proofs.YtnaamljflcgepaaGreatDoor
namespace Go.Proofs.YtnaamljflcgepaaGreatDoor
open Go.RowKit
set_option linter.unusedVariables false
namespace Kc
end Kc
end Go.Proofs.YtnaamljflcgepaaGreatDoor
namespace Go.Proofs.YtnaamljflcgepaaGreatDoor
open Go.RowKit
set_option linter.unusedVariables false
namespace Kc
/-- 25 words as an array. -/
def arr (a : Nat → Wd64) : Array Value := ((List.range 25).map fun i => Value.int .u64 (W (a i))).toArray
theorem arr_size (a : Nat → Wd64) : (arr a).size = 25 := by simp [arr]
theorem arr_at (a : Nat → Wd64) {i : Nat} (h : i < 25) : (arr a)[i]? = some (.int .u64 (W (a i))) := by simp [arr, h]
/-- A block of 25 words. -/
def IsSt (w : World) (q : Nat) (a : Nat → Wd64) : Prop := w.heap[q]? = some (.cells (arr a) 185 (0, 0))
theorem IsSt.cell {w : World} {q : Nat} {a : Nat → Wd64} (h : IsSt w q a) (i : Nat) (hi : i < 25) : w.cell? ⟨q, i, none⟩ = some (.int .u64 (W (a i))) := by
  rw [cell_of_row w q i _ _ _ h]; exact arr_at a hi
theorem IsSt.fz {w : World} {q : Nat} {a : Nat → Wd64} (h : IsSt w q a) (i : Nat) : w.frozen? ⟨q, i, none⟩ = false := frozen_of_row w q i _ _ h
def upd (a : Nat → Wd64) (i : Nat) (x : Wd64) : Nat → Wd64 := fun j => if j = i then x else a j
theorem arr_upd (a : Nat → Wd64) (i : Nat) (x : Wd64) : (arr a).setIfInBounds i (.int .u64 (W x)) = arr (upd a i x) := by
  apply Array.ext_getElem?
  intro j
  rw [Array.getElem?_setIfInBounds]
  by_cases hj : j < 25
  · rw [arr_at _ hj, arr_at _ hj, arr_size]
    by_cases e : i = j
    · subst e; simp [upd, hj]
    · have e' : ¬ j = i := fun h => e h.symm
      simp [upd, e, e']
  · rw [Array.getElem?_eq_none (by rw [arr_size]; omega), Array.getElem?_eq_none (by rw [arr_size]; omega), arr_size]
    split
    · split
      · omega
      · rfl
    · rfl
theorem IsSt.set {w : World} {q : Nat} {a : Nat → Wd64} (h : IsSt w q a) (i : Nat) (x : Wd64) : IsSt (w.setCell ⟨q, i, none⟩ (.int .u64 (W x))) q (upd a i x) := by
  unfold IsSt at *
  rw [heap_setCell_same w q i _ _ _ h, arr_upd]
theorem IsSt.keep {w : World} {q p i : Nat} {v : Value} {a : Nat → Wd64} (h : IsSt w q a) (hn : q ≠ p) : IsSt (w.setCell ⟨p, i, none⟩ v) q a := by
  unfold IsSt at *
  rw [Below.heap_setCell _ _ _ _ hn]; exact h
structure Pm (W : World) (q0 q1 q2 : Nat) (a b : Nat → Wd64) (y : World) : Prop where
  sa : IsSt y q0 a
  sr : IsSt y q1 (fun _ => 0#64)
  sb : IsSt y q2 b
  n01 : q0 ≠ q1
  n02 : q0 ≠ q2
  n12 : q1 ≠ q2
  g0 : W.heap.size ≤ q0
  g1 : W.heap.size ≤ q1
  g2 : W.heap.size ≤ q2
  below : Below W.heap.size W y
theorem Pm.drewN {W : World} {q0 q1 q2 : Nat} {a b : Nat → Wd64} {y : World} (h : Pm W q0 q1 q2 a b y) (n : Nat) : Pm W q0 q1 q2 a b (y.drewN n) := ⟨h.sa, h.sr, h.sb, h.n01, h.n02, h.n12, h.g0, h.g1, h.g2, below_drewN h.below n⟩
theorem Pm.drew {W : World} {q0 q1 q2 : Nat} {a b : Nat → Wd64} {y : World} (h : Pm W q0 q1 q2 a b y) : Pm W q0 q1 q2 a b y.drew := ⟨h.sa, h.sr, h.sb, h.n01, h.n02, h.n12, h.g0, h.g1, h.g2, h.below.drew⟩
theorem Pm.tab {W : World} {q0 q1 q2 : Nat} {a b : Nat → Wd64} {y : World} (h : Pm W q0 q1 q2 a b y) (ht : Laid.KTab W) (i : Nat) (hi : i < 24) : y.cell? ⟨1, i, none⟩ = some (.int .u64 (Kc.W (consts.getD i 0#64))) := keep1 h.below (ht i hi)
end Kc
end Go.Proofs.YtnaamljflcgepaaGreatDoor
namespace Go.Proofs.YtnaamljflcgepaaGreatDoor
open Go.RowKit
set_option linter.unusedVariables false
namespace Kc
/-- n values. -/
def tab (n : Nat) (g : Nat → Value) : Array Value := ((List.range n).map g).toArray
theorem tab_size (n : Nat) (g : Nat → Value) : (tab n g).size = n := by simp [tab]
theorem tab_at {n : Nat} (g : Nat → Value) {i : Nat} (h : i < n) : (tab n g)[i]? = some (g i) := by simp [tab, h]
theorem tab_cong {n : Nat} {f g : Nat → Value} (h : ∀ i, i < n → f i = g i) : tab n f = tab n g := by
  unfold tab
  congr 1
  apply List.map_congr_left
  intro i hi
  rw [h i (by simpa using hi)]
theorem tab_one {n : Nat} {g : Nat → Value} (h : ∀ i, (g i).oneCell' = true) : (tab n g).all (·.oneCell') = true := by simp [tab]; intro i _; exact h i
def updv (g : Nat → Value) (i : Nat) (x : Value) : Nat → Value := fun j => if j = i then x else g j
theorem tab_upd {n : Nat} (g : Nat → Value) (i : Nat) (x : Value) : (tab n g).setIfInBounds i x = tab n (updv g i x) := by
  apply Array.ext_getElem?
  intro j
  rw [Array.getElem?_setIfInBounds]
  by_cases hj : j < n
  · rw [tab_at _ hj, tab_at _ hj, tab_size]
    by_cases e : i = j
    · subst e; simp [updv, hj]
    · have e' : ¬ j = i := fun h => e h.symm
      simp [updv, e, e']
  · rw [Array.getElem?_eq_none (by rw [tab_size]; omega), Array.getElem?_eq_none (by rw [tab_size]; omega), tab_size]
    split
    · split
      · omega
      · rfl
    · rfl
/-- A block that holds n values. -/
def IsTab (w : World) (q T n : Nat) (g : Nat → Value) : Prop := w.heap[q]? = some (.cells (tab n g) T (0, 0))
theorem IsTab.cell {w : World} {q T n : Nat} {g : Nat → Value} (h : IsTab w q T n g) (i : Nat) (hi : i < n) : w.cell? ⟨q, i, none⟩ = some (g i) := by
  rw [cell_of_row w q i _ _ _ h]; exact tab_at g hi
theorem IsTab.fz {w : World} {q T n : Nat} {g : Nat → Value} (h : IsTab w q T n g) (i : Nat) : w.frozen? ⟨q, i, none⟩ = false := frozen_of_row w q i _ _ h
theorem IsTab.lt {w : World} {q T n : Nat} {g : Nat → Value} (h : IsTab w q T n g) : q < w.heap.size := (Array.getElem?_eq_some_iff.1 h).1
theorem IsTab.set {w : World} {q T n : Nat} {g : Nat → Value} (h : IsTab w q T n g) (i : Nat) (x : Value) : IsTab (w.setCell ⟨q, i, none⟩ x) q T n (updv g i x) := by
  unfold IsTab at *
  rw [heap_setCell_same w q i _ _ _ h, tab_upd]
theorem IsTab.keep {w : World} {q p i T n : Nat} {v : Value} {g : Nat → Value} (h : IsTab w q T n g) (hn : q ≠ p) : IsTab (w.setCell ⟨p, i, none⟩ v) q T n g := by
  unfold IsTab at *
  rw [Below.heap_setCell _ _ _ _ hn]; exact h
theorem IsTab.cong {w : World} {q T n : Nat} {f g : Nat → Value} (h : IsTab w q T n f) (e : ∀ i, i < n → f i = g i) : IsTab w q T n g := by
  unfold IsTab at *
  rw [← tab_cong e]; exact h
theorem IsTab.drewN {w : World} {q T n : Nat} {g : Nat → Value} (h : IsTab w q T n g) (k : Nat) : IsTab (w.drewN k) q T n g := h
theorem IsTab.drew {w : World} {q T n : Nat} {g : Nat → Value} (h : IsTab w q T n g) : IsTab w.drew q T n g := h
theorem IsTab.below {W w : World} {q T n : Nat} {g : Nat → Value} (h : IsTab W q T n g) (hb : Below W.heap.size W w) : IsTab w q T n g := by
  unfold IsTab at *
  rw [hb.block q (Array.getElem?_eq_some_iff.1 h).1]; exact h
theorem IsTab.alloc {w : World} {q T n : Nat} {g : Nat → Value} (h : IsTab w q T n g) (o : Obj) : IsTab (w.alloc o) q T n g := by
  unfold IsTab at *
  rw [Below.heap_alloc w o q (Array.getElem?_eq_some_iff.1 h).1]; exact h
theorem IsTab.new (w : World) (T n : Nat) (g : Nat → Value) : IsTab (w.alloc (.cells (tab n g) T)) w.heap.size T n g := heap_alloc_new w _
theorem IsTab.row {w : World} {q T n : Nat} {f g : Nat → Value} (h : IsTab w q T n f) : IsTab (w.setRow q (tab n g)) q T n g := setRow_heap w q _ _ _ _ h
theorem IsTab.rowOther {w : World} {q p T n : Nat} {g : Nat → Value} {cs : Array Value} (h : IsTab w q T n g) (hn : q ≠ p) : IsTab (w.setRow p cs) q T n g := by
  unfold IsTab at *
  rw [setRow_other _ _ _ _ hn]; exact h
theorem below_setRow {B : Nat} {W w : World} (h : Below B W w) {q : Nat} (hq : B ≤ q) (cs : Array Value) : Below B W (w.setRow q cs) :=
  ⟨by simp; exact h.os, by simp; exact h.tape, by simp; exact h.output, by simp; exact h.size, fun k hk => by rw [setRow_other _ _ _ _ (by omega)]; exact h.block k hk⟩

/-! ## bytes -/
abbrev Bt := BitVec 8
def Bv (x : Bt) : Int := (x.toNat : Int)
/-- The value of a word, of a byte. -/
def wv (x : Wd64) : Value := .int .u64 (W x)
def bv (x : Bt) : Value := .int .u8 (Bv x)
def words (a : Nat → Wd64) : Array Value := tab 25 fun i => wv (a i)
/-- A byte as a word. -/
def wd (x : Bt) : Wd64 := x.setWidth 64
/-- Eight bytes as a word. -/
def lane (p : Nat → Bt) (i : Nat) : Wd64 :=
  wd (p (8 * i)) ||| wd (p (8 * i + 1)) <<< 8 ||| wd (p (8 * i + 2)) <<< 16 ||| wd (p (8 * i + 3)) <<< 24 ||| wd (p (8 * i + 4)) <<< 32 ||| wd (p (8 * i + 5)) <<< 40 ||| wd (p (8 * i + 6)) <<< 48 ||| wd (p (8 * i + 7)) <<< 56
def absorbK (a : Nat → Wd64) (p : Nat → Bt) (k : Nat) : Nat → Wd64 := fun i => if i < k then a i ^^^ lane p i else a i
def absorb (a : Nat → Wd64) (p : Nat → Bt) : Nat → Wd64 := perm (absorbK a p 17)
def digest (a : Nat → Wd64) (i : Nat) : Bt := (a (i / 8) >>> (8 * (i % 8))).setWidth 8
/-- Behind k whole pieces. -/
def st (l : List Bt) : Nat → Nat → Wd64
  | 0 => fun _ => 0#64
  | k + 1 => absorb (st l k) fun j => l.getD (136 * k + j) 0#8
/-- The last piece. -/
def last (l : List Bt) : Nat → Bt := fun j =>
  (if j < l.length % 136 then l.getD (136 * (l.length / 136) + j) 0#8 else 0#8) ^^^ (if j = l.length % 136 then 1#8 else 0#8) ^^^ (if j = 135 then 128#8 else 0#8)
def sum (l : List Bt) : Nat → Bt := digest (absorb (st l (l.length / 136)) (last l))
theorem ktab_below {W w : World} (ht : Laid.KTab W) (h : Below W.heap.size W w) : Laid.KTab w := fun i hi => keep1 h (ht i hi)
end Kc
end Go.Proofs.YtnaamljflcgepaaGreatDoor
namespace Go.Proofs.YtnaamljflcgepaaGreatDoor
open Go.RowKit
set_option linter.unusedVariables false
/-- A world of the class R. -/
structure Wd (R : World → Prop) where
  val : World
  ok : R val
theorem wp_region_in {P : Program} {id : Nat} {Q : Exit → Act → World → Prop} {a : Act} {w : World} {l : List Oper} (R : World → Prop) (hm : P.follows .mixedOrders = true) (hB : Region.lexB .any l.toArray = true) (hR : R w.drew)
    (h : wpQuiet P l.toArray (fun w' => ∃ s : Wd R, w' = s.val) (fun a' => ∀ w', (∃ s : Wd R, w' = s.val) → Q .normal a' w') l a) : (Code.region id l.toArray true).wp P Q a w :=
  wp_region_quiet (C := fun w' => ∃ s : Wd R, w' = s.val) hm hB ⟨⟨_, hR⟩, rfl⟩ (by simpa using h)
/-- A contract over worlds of the class, from one that makes memory alone. -/
theorem in_of_below {P : Program} {f : FuncId} {args : Array Value} {v : Value} {R : World → Prop} (s : Wd R) (hR : ∀ y, Below s.val.heap.size s.val y → R y) (h : Calls P f args s.val fun e w' => e = .returned v ∧ Below s.val.heap.size s.val w') :
    Calls P f args s.val fun e w' => e = .returned v ∧ ∃ s' : Wd R, w' = s'.val :=
  h.mono fun e w' ⟨he, hb⟩ => ⟨he, ⟨w', hR w' hb⟩, rfl⟩
end Go.Proofs.YtnaamljflcgepaaGreatDoor
namespace Go.Proofs.YtnaamljflcgepaaGreatDoor
open Go.RowKit
set_option linter.unusedVariables false
section
variable {P : Program} {md : Region.Mode} {ops : Array Oper} {Q : Exit → Act → World → Prop} {C : World → Prop}
variable {hd : Array Oper} {n g : Nat} {l' l : Array Bool}
end
end Go.Proofs.YtnaamljflcgepaaGreatDoor
namespace Go.Proofs.YtnaamljflcgepaaGreatDoor
open Go.RowKit
set_option linter.unusedVariables false
namespace Kc
structure Dg (W : World) (q0 q1 q2 : Nat) (a : Nat → Wd64) (d : Nat → Bt) (y : World) : Prop where
  sa : IsTab y q0 185 25 fun i => wv (a i)
  sr : IsTab y q1 29 32 fun _ => bv 0#8
  sh : IsTab y q2 29 32 fun i => bv (d i)
  n01 : q0 ≠ q1
  n02 : q0 ≠ q2
  n12 : q1 ≠ q2
  g1 : W.heap.size ≤ q1
  g2 : W.heap.size ≤ q2
  below : Below W.heap.size W y
def digK (a : Nat → Wd64) (k : Nat) : Nat → Bt := fun i => if i < k then digest a i else 0#8
theorem hInfo : (Tryz.prog.info? 29).map (·.size) = some 32 := by kernel_rfl
theorem infH (g : Nat → Value) : (Tryz.prog.info? 29).map (·.size) = some (tab 32 g).size := by rw [tab_size]; exact hInfo
theorem undH : Tryz.prog.underlying 29 = some (.array 32 5) := by kernel_rfl
theorem dig_val (a : Nat → Wd64) (n : Nat) : Kc.W (a (n / 8)) / 2 ^ (8 * (n % 8)) % 256 = Bv (digest a n) := by
  rw [W_shr]
  unfold Bv digest Kc.W
  rw [BitVec.toNat_setWidth]
  rfl
theorem Dg.step {W : World} {q0 q1 q2 n : Nat} {a : Nat → Wd64} {y : World} (h : Dg W q0 q1 q2 a (digK a n) y) (hn : n < 32) :
    Dg W q0 q1 q2 a (digK a (n + 1)) (y.setCell ⟨q2, n, none⟩ (.int .u8 (Kc.W (a (n / 8)) / 2 ^ (8 * (n % 8)) % 256))) := by
  rw [dig_val]
  refine ⟨h.sa.keep h.n02, h.sr.keep h.n12, (h.sh.set n _).cong (fun i _ => ?_), h.n01, h.n02, h.n12, h.g1, h.g2, h.below.setCell h.g2 _⟩
  unfold updv digK bv
  dsimp only
  by_cases e : i = n
  · subst e; rw [if_pos rfl, if_pos (Nat.lt_succ_self _)]
  · rw [if_neg e]
    by_cases e2 : i < n
    · rw [if_pos e2, if_pos (by omega)]
    · rw [if_neg e2, if_neg (by omega)]
end Kc
end Go.Proofs.YtnaamljflcgepaaGreatDoor
namespace Go.Proofs.YtnaamljflcgepaaGreatDoor
open Go.RowKit
set_option linter.unusedVariables false
namespace Kc
/-! ## a hasher -/
def hv (s : Nat → Wd64) (pc : Nat → Bt) (fill : Nat) : Nat → Value := fun i => if i < 25 then wv (s i) else if i < 161 then bv (pc (i - 25)) else .int .i64 fill
/-- Values set one by one from a place on. -/
theorem IsTab.setCells {q T n : Nat} : ∀ (vs : List Value) (o : Nat) (w : World) (g : Nat → Value), IsTab w q T n g → IsTab (w.setCells q o vs) q T n fun i => if o ≤ i ∧ i < o + vs.length then vs.getD (i - o) (.int .i64 0) else g i
  | [], o, w, g, h => h.cong fun i _ => by rw [if_neg (by simp only [List.length_nil]; omega)]
  | v :: r, o, w, g, h => (IsTab.setCells r (o + 1) _ _ (h.set o v)).cong fun i _ => by
      simp only [List.length_cons, updv]
      by_cases e : i = o
      · subst e; rw [if_neg (by omega), if_pos rfl, if_pos (by omega)]; simp
      · by_cases e2 : o + 1 ≤ i ∧ i < o + 1 + r.length
        · rw [if_pos e2, if_pos (by omega), show i - o = (i - (o + 1)) + 1 from by omega]; rfl
        · rw [if_neg e2, if_neg e, if_neg (by omega)]
theorem keptS_setCells {S : Nat → Prop} {q : Nat} (hq : S q) {a : World} : ∀ (vs : List Value) (o : Nat) (w : World), Kept S a w → Kept S a (w.setCells q o vs)
  | [], _, w, h => h
  | v :: r, o, w, h => keptS_setCells hq r (o + 1) _ (h.setCell (.inl hq) v)
theorem IsTab.range {w : World} {q T n : Nat} {g : Nat → Value} (h : IsTab w q T n g) (o k : Nat) (f : Nat → Value) (hk : o + k ≤ n) (hf : ∀ j, j < k → g (o + j) = f j) : w.rangeAt q o ((List.range k).map f) := fun j v hv => by
  obtain ⟨hj, rfl⟩ := List.getElem?_eq_some_iff.1 hv
  simp only [List.length_map, List.length_range] at hj
  rw [h.cell (o + j) (by omega), hf j hj]
  simp
theorem IsTab.thereAt {w : World} {q T n : Nat} {g : Nat → Value} (h : IsTab w q T n g) (o k : Nat) (hk : o + k ≤ n) : w.there q o k := fun j hj => ⟨by rw [h.cell (o + j) (by omega)]; rfl, h.fz _⟩
end Kc
end Go.Proofs.YtnaamljflcgepaaGreatDoor
namespace Go.Proofs.YtnaamljflcgepaaGreatDoor
open Go.RowKit
set_option linter.unusedVariables false
namespace Kc
structure Ab (W : World) (q0 q1 q2 : Nat) (a : Nat → Wd64) (p : Nat → Bt) (y : World) : Prop where
  sa : IsTab y q0 185 25 fun i => wv (a i)
  sp : IsTab y q1 186 136 fun i => bv (p i)
  sr : IsTab y q2 185 25 fun _ => wv 0#64
  n01 : q0 ≠ q1
  n02 : q0 ≠ q2
  n12 : q1 ≠ q2
  g0 : W.heap.size ≤ q0
  g2 : W.heap.size ≤ q2
  below : Below W.heap.size W y
theorem Ab.step {W : World} {q0 q1 q2 n : Nat} {a : Nat → Wd64} {p : Nat → Bt} {y : World} (h : Ab W q0 q1 q2 (absorbK a p n) p y) (hn : n < 17) :
    Ab W q0 q1 q2 (absorbK a p (n + 1)) p (y.setCell ⟨q0, n, none⟩ (.int .u64 (Kc.W (absorbK a p n n ^^^ lane p n)))) :=
  ⟨(h.sa.set n _).cong (fun i _ => by
      unfold updv absorbK wv
      dsimp only
      by_cases e : i = n
      · subst e; rw [if_pos rfl, if_neg (Nat.lt_irrefl _), if_pos (Nat.lt_succ_self _)]
      · rw [if_neg e]
        by_cases e2 : i < n
        · rw [if_pos e2, if_pos (by omega)]
        · rw [if_neg e2, if_neg (by omega)]), h.sp.keep (Ne.symm h.n01), h.sr.keep (Ne.symm h.n02), h.n01, h.n02, h.n12, h.g0, h.g2, h.below.setCell h.g0 _⟩
end Kc
end Go.Proofs.YtnaamljflcgepaaGreatDoor
namespace Go.Proofs.YtnaamljflcgepaaGreatDoor
open Go.RowKit
set_option linter.unusedVariables false
namespace Kc
end Kc
end Go.Proofs.YtnaamljflcgepaaGreatDoor
namespace Go.Proofs.YtnaamljflcgepaaGreatDoor
open Go.RowKit
set_option linter.unusedVariables false
namespace Kc
def AddR (W : World) (q b o : Nat) (g : Nat → Value) (r : List Bt) (y : World) : Prop :=
  IsTab y q 188 162 g ∧ Kept (· = q) W y ∧ (∀ j, j < r.length → y.cell? ⟨b, o + j, none⟩ = some (bv (r.getD j 0#8))) ∧ Laid.KTab y
theorem AddR.below {W : World} {q b o : Nat} {g : Nat → Value} {r : List Bt} {y y' : World} (h : AddR W q b o g r y) (hb : Below y.heap.size y y') : AddR W q b o g r y' :=
  ⟨h.1.below hb, h.2.1.trans (Kept.ofBelow (S := (· = q)) hb) (fun _ _ h => h), fun j hj => keep1 hb (h.2.2.1 j hj), ktab_below h.2.2.2 hb⟩
end Kc
end Go.Proofs.YtnaamljflcgepaaGreatDoor
namespace Go.Proofs.YtnaamljflcgepaaGreatDoor
open Go.RowKit
set_option linter.unusedVariables false
namespace Kc
structure Hr (W : World) (q q1 q2 : Nat) (s : Nat → Wd64) (pc : Nat → Bt) (fill : Nat) (p : Nat → Bt) (y : World) : Prop where
  sh : IsTab y q 188 162 (hv s pc fill)
  sr : IsTab y q1 29 32 fun _ => bv 0#8
  sl : IsTab y q2 186 136 fun i => bv (p i)
  n01 : q ≠ q1
  n02 : q ≠ q2
  n12 : q1 ≠ q2
  g1 : W.heap.size ≤ q1
  g2 : W.heap.size ≤ q2
  below : Below W.heap.size W y
  kt : Laid.KTab y
  kq : 1 ≠ q2
theorem Hr.cong {W : World} {q q1 q2 fill : Nat} {s : Nat → Wd64} {pc p p' : Nat → Bt} {y : World} (h : Hr W q q1 q2 s pc fill p y) (e : ∀ j, j < 136 → p j = p' j) : Hr W q q1 q2 s pc fill p' y :=
  ⟨h.sh, h.sr, h.sl.cong (fun i hi => by rw [e i hi]), h.n01, h.n02, h.n12, h.g1, h.g2, h.below, h.kt, h.kq⟩
theorem Hr.set {W : World} {q q1 q2 fill : Nat} {s : Nat → Wd64} {pc p : Nat → Bt} {y : World} (h : Hr W q q1 q2 s pc fill p y) (n : Nat) (x : Bt) :
    Hr W q q1 q2 s pc fill (fun j => if j = n then x else p j) (y.setCell ⟨q2, n, none⟩ (.int .u8 (Bv x))) :=
  ⟨h.sh.keep h.n02, h.sr.keep h.n12, (h.sl.set n _).cong (fun i _ => by unfold updv bv; dsimp only; split <;> rfl), h.n01, h.n02, h.n12, h.g1, h.g2, h.below.setCell h.g2 _, fun i hi => by rw [World.cell?_setCell_other _ _ _ _ (fun e => by have := h.kq; exact this (congrArg Addr.block e).symm)]; exact h.kt i hi, h.kq⟩
theorem Hr.next {W : World} {q q1 q2 fill : Nat} {s : Nat → Wd64} {pc p : Nat → Bt} {y y' : World} (h : Hr W q q1 q2 s pc fill p y) (hb : Below y.heap.size y y') : Hr W q q1 q2 s pc fill p y' :=
  ⟨h.sh.below hb, h.sr.below hb, h.sl.below hb, h.n01, h.n02, h.n12, h.g1, h.g2, bl h.below hb, ktab_below h.kt hb, h.kq⟩
theorem Hr.drew {W : World} {q q1 q2 fill : Nat} {s : Nat → Wd64} {pc p : Nat → Bt} {y : World} (h : Hr W q q1 q2 s pc fill p y) : Hr W q q1 q2 s pc fill p y.drew :=
  ⟨h.sh, h.sr, h.sl, h.n01, h.n02, h.n12, h.g1, h.g2, h.below.drew, h.kt, h.kq⟩
theorem Hr.zero {W : World} {q q1 q2 fill n : Nat} {s : Nat → Wd64} {pc : Nat → Bt} {y : World} (h : Hr W q q1 q2 s pc fill (fun j => if fill ≤ j ∧ j < n then 0#8 else pc j) y) (hn : fill ≤ n) (hn2 : n < 136) :
    Hr W q q1 q2 s pc fill (fun j => if fill ≤ j ∧ j < n + 1 then 0#8 else pc j) (y.setCell ⟨q2, n, none⟩ (.int .u8 0)) :=
  (h.set n 0#8).cong fun j _ => by
    by_cases e : j = n
    · subst e; rw [if_pos rfl, if_pos ⟨hn, by omega⟩]
    · rw [if_neg e]
      by_cases e2 : fill ≤ j ∧ j < n
      · rw [if_pos e2, if_pos ⟨e2.1, by omega⟩]
      · rw [if_neg e2, if_neg (by omega)]
theorem results_cell_tmp {P : Program} {fn : Func} {p s : Tmp} {ty : TypeId} (h : fn.results = #[.cell p ty, .tmp s]) (tmps : Array Value) (w : World) (g : Nat) (t : TypeId) (cs : Array Value) (fr : Nat × Nat) (d : TypeDesc)
    (hp : tmps.getD p undef = .pointer (some ⟨g, 0, none⟩)) (hg : w.heap[g]? = some (.cells cs t fr))
    (hu : P.underlying ty = some d) (hd : (match d with | .struct _ | .array _ _ => true | _ => false) = true) (hi : (P.info? ty).map (·.size) = some cs.size) (v : Value) (hs : tmps.getD s undef = v) :
    (results fn tmps).run P w = .ok (.tuple #[.agg cs, v]) w := by
  have hs' : tmps[s]?.getD undef = v := by simpa using hs
  have hp' : tmps[p]?.getD undef = .pointer (some ⟨g, 0, none⟩) := by simpa using hp
  simp [results, h, hp', hs', asAddr, run_loadVar_row w g t ty cs fr d hg hu hd hi]
end Kc
end Go.Proofs.YtnaamljflcgepaaGreatDoor
namespace Go.Proofs.YtnaamljflcgepaaGreatDoor
open Go.RowKit
set_option linter.unusedVariables false
namespace Kc
end Kc
end Go.Proofs.YtnaamljflcgepaaGreatDoor
namespace Go.Proofs.YtnaamljflcgepaaGreatDoor
open Go.RowKit
set_option linter.unusedVariables false
namespace Kc
/-- Two digests next to one another. -/
def both (x y : Nat → Bt) : List Bt := (List.range 32).map x ++ (List.range 32).map y
structure Pr (W : World) (q0 q1 q2 q3 : Nat) (x y : Nat → Bt) (g : Nat → Value) (u : World) : Prop where
  sx : IsTab u q0 29 32 fun i => bv (x i)
  sy : IsTab u q1 29 32 fun i => bv (y i)
  sr : IsTab u q2 29 32 fun _ => bv 0#8
  sp : IsTab u q3 49 64 g
  n0 : q0 ≠ q3
  n1 : q1 ≠ q3
  n2 : q2 ≠ q3
  g2 : W.heap.size ≤ q2
  g3 : W.heap.size ≤ q3
  below : Below W.heap.size W u
theorem Pr.row {W u : World} {q0 q1 q2 q3 : Nat} {x y : Nat → Bt} {g : Nat → Value} (h : Pr W q0 q1 q2 q3 x y g u) (g' : Nat → Value) : Pr W q0 q1 q2 q3 x y g' (u.setRow q3 (tab 64 g')) :=
  ⟨h.sx.rowOther h.n0, h.sy.rowOther h.n1, h.sr.rowOther h.n2, h.sp.row, h.n0, h.n1, h.n2, h.g2, h.g3, below_setRow h.below h.g3 _⟩
theorem Pr.drew {W u : World} {q0 q1 q2 q3 : Nat} {x y : Nat → Bt} {g : Nat → Value} (h : Pr W q0 q1 q2 q3 x y g u) : Pr W q0 q1 q2 q3 x y g u.drew :=
  ⟨h.sx, h.sy, h.sr, h.sp, h.n0, h.n1, h.n2, h.g2, h.g3, h.below.drew⟩
end Kc
end Go.Proofs.YtnaamljflcgepaaGreatDoor
namespace Go.Proofs.YtnaamljflcgepaaGreatDoor
open Go.RowKit
set_option linter.unusedVariables false
section
variable {P : Program} {md : Region.Mode} {ops : Array Oper} {C : World → Prop}
end
namespace Kc
theorem run_equal_tab {P : Program} (w : World) (d : Nat) (t e : TypeId) (n : Nat) (k : IntKind) (ht : P.underlying t = some (.array n e)) (he : P.underlying e = some (.int k)) (hsz : ∀ w, (sizeOf e).run P w = .ok 1 w) (f g : Nat → Int) :
    (Op.equalIn (d + 2) t (.agg (tab n fun i => .int k (f i))) (.agg (tab n fun i => .int k (g i)))).run P w = .ok ((List.range n).all fun i => f i == g i) w := by
  rw [List.range_eq_range', Op.equalIn]
  simp only [Sem.run_bind, run_underlying ht, Result.andThen_ok, hsz, Std.Legacy.Range.forIn_eq_forIn_range', Std.Legacy.Range.size, Nat.sub_zero, Nat.add_sub_cancel, Nat.div_one]
  have hl : ∀ i ∈ List.range' 0 n 1, i < n := fun i hi => by simpa using (List.mem_range'_1.1 hi).2
  generalize List.range' 0 n 1 = l at hl ⊢
  induction l with
  | nil => simp
  | cons i l ih =>
    have hi : i < n := hl i (by simp)
    have px : ∀ h : Nat → Int, (part e (tab n fun i => .int k (h i)) (i * 1)).run P w = .ok (.int k (h i)) w := fun h => by
      have := tab_at (fun i => Value.int k (h i)) hi
      simp [part, isAgg, run_underlying he, this]
    have pe : (Op.equalIn (d + 1) e (.int k (f i)) (.int k (g i))).run P w = .ok (f i == g i) w := run_equalIn_int w d e k k _ _ he
    simp only [List.forIn_cons, Sem.run_bind, px, pe, Result.andThen_ok, List.all_cons]
    cases hb : (f i == g i)
    · simp
    · simp only [Bool.not_true, Bool.false_eq_true, if_false, Sem.run_pure, Result.andThen_ok, Bool.true_and]
      exact ih fun j hj => hl j (by simp [hj])
theorem run_eql_tab {P : Program} (w : World) (t e : TypeId) (n : Nat) (k : IntKind) (ht : P.underlying t = some (.array n e)) (he : P.underlying e = some (.int k)) (hsz : ∀ w, (sizeOf e).run P w = .ok 1 w) (f g : Nat → Int) :
    (binOp .eql t (.agg (tab n fun i => .int k (f i))) (.agg (tab n fun i => .int k (g i)))).run P w = .ok (.bool ((List.range n).all fun i => f i == g i)) w := by
  rw [run_eql_struct, run_equal_tab w 9998 t e n k ht he hsz]; rfl
def same32 (a b : Nat → Bt) : Bool := (List.range 32).all fun i => Bv (a i) == Bv (b i)
theorem sizeU8 (w : World) : (sizeOf 5).run Tryz.prog w = .ok 1 w := by kernel_rfl
theorem undU8 : Tryz.prog.underlying 5 = some (.int .u8) := by kernel_rfl
theorem eql32 (a b : Nat → Bt) (w : World) : (binOp .eql 29 (.agg (tab 32 fun i => bv (a i))) (.agg (tab 32 fun i => bv (b i)))).run Tryz.prog w = .ok (.bool (same32 a b)) w :=
  run_eql_tab w _ _ 32 .u8 (by kernel_rfl) undU8 sizeU8 _ _
end Kc
end Go.Proofs.YtnaamljflcgepaaGreatDoor
namespace Go.Proofs.YtnaamljflcgepaaGreatDoor
set_option linter.unusedVariables false
namespace Mk
open Kc
abbrev Hx := Nat → Bt
def pr (x y : Hx) : Hx := sum (both x y)
def zero : Nat → Hx
  | 0 => fun _ => 0#8
  | h + 1 => pr (zero h) (zero h)
/-- The root of the part of height h that begins at the leaf k. -/
def und (g : Nat → Hx) : Nat → Nat → Hx
  | 0, k => g k
  | h + 1, k => pr (und g h k) (und g h (k + 2 ^ h))
/-- n leaves, and noughts behind. -/
def ext (n : Nat) (f : Nat → Hx) : Nat → Hx := fun k => if k < n then f k else zero 0
/-- A level: the parts of height h, one by one. -/
def lev (g : Nat → Hx) (h : Nat) : Nat → Hx := fun k => und g h (k * 2 ^ h)
/-- How many are kept of a level. -/
def cnt (n : Nat) : Nat → Nat
  | 0 => n
  | h + 1 => (cnt n h + 1) / 2
/-! ## paths -/
/-- What stands beside the way to the leaf i, at height h. -/
def sib (g : Nat → Hx) (i h : Nat) : Hx := lev g h ((i / 2 ^ h) ^^^ 1)
/-- With another leaf at a place. -/
def put (g : Nat → Hx) (i : Nat) (x : Hx) : Nat → Hx := fun k => if k = i then x else g k
end Mk
end Go.Proofs.YtnaamljflcgepaaGreatDoor
namespace Go.Proofs.YtnaamljflcgepaaGreatDoor
open Go.RowKit
set_option linter.unusedVariables false
def firstLoop : Code → Option Code
  | .loop c => some c
  | .seq a b => match firstLoop a with
    | some c => some c
    | none => firstLoop b
  | .block _ c => firstLoop c
  | .scope c => firstLoop c
  | .cond _ a b => match firstLoop a with
    | some c => some c
    | none => firstLoop b
  | _ => none
namespace Kc
noncomputable def rowBody : Code := (((Tryz.f97.body.bind firstLoop).bind firstLoop).getD .skip)
end Kc
end Go.Proofs.YtnaamljflcgepaaGreatDoor
namespace Go.Proofs.YtnaamljflcgepaaGreatDoor
set_option linter.unusedVariables false
section
variable {P : Program} {ops : Array Oper} {Q : Exit → Act → World → Prop} {S : World → Prop}
end
end Go.Proofs.YtnaamljflcgepaaGreatDoor
