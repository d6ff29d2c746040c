/-
  Contracts of clock.Check, Spent, Over, Next. Own work.
-/
import Derived.Test.YtfapkffdhflliaaDoorErr
import Derived.Test.YtfapkffdhflliaaDoorMm
import Derived.Test.YtfapkffdhflliaaDoorRow
import Derived.Outline
import Derived.Lib.Hide
import Derived.Deep.QuietTactic
import Derived.BigQuiet
namespace Go.Proofs.YtfapkffdhflliaaDoor
open Go.RowKit
namespace Clk
/-- Are the rules such? -/
def ok (l g : Int) : Prop := 1 ≤ l ∧ l ≤ 1099511627776 ∧ g ≤ l
/-- Are the numbers such? -/
def near (u a b n : Int) : Prop := a ≤ n ∧ u ≤ 1099511627776 ∧ b ≤ 1099511627776 ∧ n ≤ 1099511627776
set_option maxHeartbeats 400000 in
theorem check_ok (l g : Int) (w : World) (h0 : 1 ≤ l) (h1 : l ≤ 1099511627776) (h3 : g ≤ l) :
    Calls Tryd.prog 10 #[.agg #[.int .u64 l, .int .u64 g]] w fun e w' => e = .returned .nilIface ∧ Below w.heap.size w w' := by
  go_enter Tryd.func10, Tryd.ntmps10
  go_wp2
  go_ret
  exact ⟨rfl, (Below.refl _ _).alloc (Nat.le_refl _) _⟩
set_option maxHeartbeats 400000 in
theorem check_bad (l g : Int) (w : World) (h : l < 1 ∨ 1099511627776 < l ∨ l < g) :
    Calls Tryd.prog 10 #[.agg #[.int .u64 l, .int .u64 g]] w fun e w' => e = .returned (.iface 43 (.int .i64 2)) ∧ Below w.heap.size w w' := by
  by_cases c1 : l < 1
  · go_enter Tryd.func10, Tryd.ntmps10
    go_wp2
    go_ret
    exact ⟨rfl, (Below.refl _ _).alloc (Nat.le_refl _) _⟩
  · by_cases c2 : 1099511627776 < l
    · go_enter Tryd.func10, Tryd.ntmps10
      go_wp2
      go_ret
      exact ⟨rfl, (Below.refl _ _).alloc (Nat.le_refl _) _⟩
    · have c3 : l < g := by omega
      go_enter Tryd.func10, Tryd.ntmps10
      go_wp2
      go_ret
      exact ⟨rfl, (Below.refl _ _).alloc (Nat.le_refl _) _⟩
set_option maxHeartbeats 400000 in
theorem spent_ok (u a b n : Int) (w : World) (h0 : 0 ≤ a) (h1 : a ≤ n) (h2 : n ≤ 1099511627776) (h3 : 0 ≤ u) (h4 : u ≤ 1099511627776) (h5 : 0 ≤ b) (h6 : b ≤ 1099511627776) :
    Calls Tryd.prog 4 #[.agg #[.int .u64 u, .int .u64 a], .int .u64 b, .int .u64 n] w fun e w' => e = .returned (.tuple #[.int .u64 (b + n - a), .nilIface]) ∧ Below w.heap.size w w' := by
  have hmx := @Mm.run_max4 Tryd.prog
  go_enter Tryd.func4, Tryd.ntmps4
  go_wp2
  go_ret2
  exact ⟨rfl, (Below.refl _ _).alloc (Nat.le_refl _) _⟩
set_option maxHeartbeats 400000 in
theorem spent_bad (u a b n : Int) (w : World) (h : n < a ∨ 1099511627776 < n ∨ 1099511627776 < u ∨ 1099511627776 < b) :
    Calls Tryd.prog 4 #[.agg #[.int .u64 u, .int .u64 a], .int .u64 b, .int .u64 n] w fun e w' => e = .returned (.tuple #[.int .u64 0, .iface 43 (.int .i64 2)]) ∧ Below w.heap.size w w' := by
  have hmx := @Mm.run_max4 Tryd.prog
  by_cases c1 : n < a
  · go_enter Tryd.func4, Tryd.ntmps4
    go_wp2
    go_ret2
    exact ⟨rfl, (Below.refl _ _).alloc (Nat.le_refl _) _⟩
  · have c2 : 1099511627776 < max u (max a (max b n)) := by omega
    go_enter Tryd.func4, Tryd.ntmps4
    go_wp2
    go_ret2
    exact ⟨rfl, (Below.refl _ _).alloc (Nat.le_refl _) _⟩

/-- Two boxes, then calls that only make new blocks. -/
theorem two {w W w1 : World} {a b : Array Value} {s t : TypeId} (hW : W = (w.alloc (.cells a s)).alloc (.cells b t)) (h : Below W.heap.size W w1) : Below w.heap.size w w1 := by
  subst hW
  exact (((Below.refl _ _).alloc (Nat.le_refl _) _).alloc (by simp) _).trans (h.mono (by simp; omega))
set_option maxHeartbeats 800000 in
theorem over_ok (l g u a b n : Int) (w : World) (r0 : 1 ≤ l) (r1 : l ≤ 1099511627776) (r3 : g ≤ l) (h0 : 0 ≤ a) (h1 : a ≤ n) (h2 : n ≤ 1099511627776) (h3 : 0 ≤ u) (h4 : u ≤ 1099511627776) (h5 : 0 ≤ b) (h6 : b ≤ 1099511627776) :
    Calls Tryd.prog 8 #[.agg #[.int .u64 l, .int .u64 g], .agg #[.int .u64 u, .int .u64 a], .int .u64 b, .int .u64 n] w fun e w' => e = .returned (.tuple #[.bool (decide (l ≤ b + n - a)), .nilIface]) ∧ Below w.heap.size w w' := by
  go_enter Tryd.func8, Tryd.ntmps8
  go_wp2_with fail
  refine (check_ok l g _ r0 r1 r3).mono ?_
  rintro e w1 ⟨rfl, hb1⟩
  obtain ⟨hc1, hf1⟩ := bcell hb1
  have hz1 : w.heap.size + 1 < w1.heap.size := by have := hb1.size; simp at this; omega
  have B1 := two rfl hb1
  go_wp2_with fail
  refine (spent_ok u a b n _ h0 h1 h2 h3 h4 h5 h6).mono ?_
  rintro e w2 ⟨rfl, hb2⟩
  obtain ⟨hc2, hf2⟩ := bcell hb2
  have B2 := blo B1 hb2 (by omega)
  have c1 := keep1 hb2 (x := .int .u64 l) (keep1 (o := 0) (b := w.heap.size) hb1 (by simp))
  clear hc1 hf1 hc2 hf2
  go_wp2_with fail
  go_ret2
  exact ⟨rfl, B2⟩
set_option maxHeartbeats 800000 in
theorem over_rules (l g u a b n : Int) (w : World) (h : l < 1 ∨ 1099511627776 < l ∨ l < g) :
    Calls Tryd.prog 8 #[.agg #[.int .u64 l, .int .u64 g], .agg #[.int .u64 u, .int .u64 a], .int .u64 b, .int .u64 n] w fun e w' => e = .returned (.tuple #[.bool false, .iface 43 (.int .i64 2)]) ∧ Below w.heap.size w w' := by
  have H := Lib.hid h
  clear h
  go_enter Tryd.func8, Tryd.ntmps8
  go_wp2_with fail
  refine (check_bad l g _ H.out).mono ?_
  rintro e w1 ⟨rfl, hb1⟩
  obtain ⟨hc1, hf1⟩ := bcell hb1
  have hz1 : w.heap.size + 1 < w1.heap.size := by have := hb1.size; simp at this; omega
  have B1 := two rfl hb1
  go_wp2_with fail
  go_ret2
  exact ⟨rfl, B1⟩
set_option maxHeartbeats 800000 in
theorem over_far (l g u a b n : Int) (w : World) (r0 : 1 ≤ l) (r1 : l ≤ 1099511627776) (r3 : g ≤ l) (h : n < a ∨ 1099511627776 < n ∨ 1099511627776 < u ∨ 1099511627776 < b) :
    Calls Tryd.prog 8 #[.agg #[.int .u64 l, .int .u64 g], .agg #[.int .u64 u, .int .u64 a], .int .u64 b, .int .u64 n] w fun e w' => e = .returned (.tuple #[.bool false, .iface 43 (.int .i64 2)]) ∧ Below w.heap.size w w' := by
  have H := Lib.hid h
  clear h
  go_enter Tryd.func8, Tryd.ntmps8
  go_wp2_with fail
  refine (check_ok l g _ r0 r1 r3).mono ?_
  rintro e w1 ⟨rfl, hb1⟩
  obtain ⟨hc1, hf1⟩ := bcell hb1
  have hz1 : w.heap.size + 1 < w1.heap.size := by have := hb1.size; simp at this; omega
  have B1 := two rfl hb1
  go_wp2_with fail
  refine (spent_bad u a b n _ H.out).mono ?_
  rintro e w2 ⟨rfl, hb2⟩
  obtain ⟨hc2, hf2⟩ := bcell hb2
  have B2 := blo B1 hb2 (by omega)
  go_wp2_with fail
  go_ret2
  exact ⟨rfl, B2⟩
theorem three {w W w1 : World} {a b c : Array Value} {s t u : TypeId} (hW : W = ((w.alloc (.cells a s)).alloc (.cells b t)).alloc (.cells c u)) (h : Below W.heap.size W w1) : Below w.heap.size w w1 := by
  subst hW
  exact ((((Below.refl _ _).alloc (Nat.le_refl _) _).alloc (by simp) _).alloc (by simp; omega) _).trans (h.mono (by simp; omega))
set_option maxHeartbeats 1600000 in
theorem next_ok (l g u a b n : Int) (w : World) (r0 : 1 ≤ l) (r1 : l ≤ 1099511627776) (r2 : 0 ≤ g) (r3 : g ≤ l) (h0 : 0 ≤ a) (h1 : a ≤ n) (h2 : n ≤ 1099511627776) (h3 : 0 ≤ u) (h4 : u ≤ 1099511627776) (h5 : 0 ≤ b) (h6 : b ≤ 1099511627776) (hs : b + n - a < l) :
    Calls Tryd.prog 6 #[.agg #[.int .u64 l, .int .u64 g], .agg #[.int .u64 u, .int .u64 a], .int .u64 b, .int .u64 n] w fun e w' => e = .returned (.tuple #[.agg #[.int .u64 (min (b + n - a) (l - g)), .int .u64 n], .nilIface]) ∧ Below w.heap.size w w' := by
  have hmn := @Mm.run_min2 Tryd.prog
  have hd : decide (l ≤ b + n - a) = false := by simp; omega
  go_enter Tryd.func6, Tryd.ntmps6
  go_wp2_with fail
  refine (over_ok l g u a b n _ r0 r1 r3 h0 h1 h2 h3 h4 h5 h6).mono ?_
  rintro e w1 ⟨rfl, hb1⟩
  rw [hd]
  obtain ⟨hc1, hf1⟩ := bcell hb1
  have hz1 : w.heap.size + 1 + 1 < w1.heap.size := by have := hb1.size; simp at this; omega
  go_wp2_with fail
  refine (spent_ok u a b n _ h0 h1 h2 h3 h4 h5 h6).mono ?_
  rintro e w2 ⟨rfl, hb2⟩
  obtain ⟨hc2, hf2⟩ := bcell hb2
  have hz2 : w.heap.size + 1 + 1 < w2.heap.size := by have := hb1.size; have := hb2.size; simp at *; omega
  have B1 := three rfl hb1
  have B2 := blo B1 hb2 (by omega)
  have c1 := keep1 hb2 (x := .int .u64 l) (keep1 (o := 0) (b := w.heap.size) hb1 (by simp [go_sem]))
  have c2 := keep1 hb2 (x := .int .u64 g) (keep1 (o := 1) (b := w.heap.size) hb1 (by simp [go_sem]))
  have d1 := keep1 hb2 (x := .int .u64 0) (keep1 (o := 0) (b := w.heap.size + 1 + 1) hb1 (by simp [go_sem]))
  have d2 := keep1 hb2 (x := .int .u64 0) (keep1 (o := 1) (b := w.heap.size + 1 + 1) hb1 (by simp [go_sem]))
  have f1 := keepF hb2 (by omega) (keepF (o := 0) (b := w.heap.size + 1 + 1) hb1 (by simp) (by simp [go_sem]))
  have f2 := keepF hb2 (by omega) (keepF (o := 1) (b := w.heap.size + 1 + 1) hb1 (by simp) (by simp [go_sem]))
  clear hc1 hf1 hc2 hf2
  go_wp2_with fail
  refine bodyPost_ret (v := .tuple #[.agg #[.int .u64 (min (b + n - a) (l - g)), .int .u64 n], .nilIface]) (by simp [results, Tryd.results6, go_sem, d1, d2]) rfl ⟨rfl, (B2.setCell (by simp; omega) _).setCell (by simp; omega) _⟩
set_option maxHeartbeats 800000 in
theorem next_out (l g u a b n : Int) (w : World) (r0 : 1 ≤ l) (r1 : l ≤ 1099511627776) (r3 : g ≤ l) (h0 : 0 ≤ a) (h1 : a ≤ n) (h2 : n ≤ 1099511627776) (h3 : 0 ≤ u) (h4 : u ≤ 1099511627776) (h5 : 0 ≤ b) (h6 : b ≤ 1099511627776) (hs : l ≤ b + n - a) :
    Calls Tryd.prog 6 #[.agg #[.int .u64 l, .int .u64 g], .agg #[.int .u64 u, .int .u64 a], .int .u64 b, .int .u64 n] w fun e w' => e = .returned (.tuple #[.agg #[.int .u64 0, .int .u64 0], .iface 43 (.int .i64 42)]) ∧ Below w.heap.size w w' := by
  have hd : decide (l ≤ b + n - a) = true := by simp; omega
  go_enter Tryd.func6, Tryd.ntmps6
  go_wp2_with fail
  refine (over_ok l g u a b n _ r0 r1 r3 h0 h1 h2 h3 h4 h5 h6).mono ?_
  rintro e w1 ⟨rfl, hb1⟩
  rw [hd]
  have hz1 : w.heap.size + 1 + 1 < w1.heap.size := by have := hb1.size; simp at this; omega
  have B1 := three rfl hb1
  have d1 := keep1 (x := .int .u64 0) (o := 0) (b := w.heap.size + 1 + 1) hb1 (by simp [go_sem])
  have d2 := keep1 (x := .int .u64 0) (o := 1) (b := w.heap.size + 1 + 1) hb1 (by simp [go_sem])
  have f1 := keepF (o := 0) (b := w.heap.size + 1 + 1) hb1 (by simp) (by simp [go_sem])
  have f2 := keepF (o := 1) (b := w.heap.size + 1 + 1) hb1 (by simp) (by simp [go_sem])
  go_wp2_with fail
  refine bodyPost_ret (v := .tuple #[.agg #[.int .u64 0, .int .u64 0], .iface 43 (.int .i64 42)]) (by simp [results, Tryd.results6, go_sem, d1, d2]) rfl ⟨rfl, by first | exact B1 | exact (B1.setCell (by simp; omega) _).setCell (by simp; omega) _⟩
set_option maxHeartbeats 800000 in
theorem next_rules (l g u a b n : Int) (w : World) (h : l < 1 ∨ 1099511627776 < l ∨ l < g) :
    Calls Tryd.prog 6 #[.agg #[.int .u64 l, .int .u64 g], .agg #[.int .u64 u, .int .u64 a], .int .u64 b, .int .u64 n] w fun e w' => e = .returned (.tuple #[.agg #[.int .u64 0, .int .u64 0], .iface 43 (.int .i64 2)]) ∧ Below w.heap.size w w' := by
  have H := Lib.hid h
  clear h
  go_enter Tryd.func6, Tryd.ntmps6
  go_wp2_with fail
  refine (over_rules l g u a b n _ H.out).mono ?_
  rintro e w1 ⟨rfl, hb1⟩
  have hz1 : w.heap.size + 1 + 1 < w1.heap.size := by have := hb1.size; simp at this; omega
  have B1 := three rfl hb1
  have d1 := keep1 (x := .int .u64 0) (o := 0) (b := w.heap.size + 1 + 1) hb1 (by simp [go_sem])
  have d2 := keep1 (x := .int .u64 0) (o := 1) (b := w.heap.size + 1 + 1) hb1 (by simp [go_sem])
  have f1 := keepF (o := 0) (b := w.heap.size + 1 + 1) hb1 (by simp) (by simp [go_sem])
  have f2 := keepF (o := 1) (b := w.heap.size + 1 + 1) hb1 (by simp) (by simp [go_sem])
  go_wp2_with fail
  refine bodyPost_ret (v := .tuple #[.agg #[.int .u64 0, .int .u64 0], .iface 43 (.int .i64 2)]) (by simp [results, Tryd.results6, go_sem, d1, d2]) rfl ⟨rfl, by first | exact B1 | exact (B1.setCell (by simp; omega) _).setCell (by simp; omega) _⟩
set_option maxHeartbeats 800000 in
theorem next_far (l g u a b n : Int) (w : World) (r0 : 1 ≤ l) (r1 : l ≤ 1099511627776) (r3 : g ≤ l) (h : n < a ∨ 1099511627776 < n ∨ 1099511627776 < u ∨ 1099511627776 < b) :
    Calls Tryd.prog 6 #[.agg #[.int .u64 l, .int .u64 g], .agg #[.int .u64 u, .int .u64 a], .int .u64 b, .int .u64 n] w fun e w' => e = .returned (.tuple #[.agg #[.int .u64 0, .int .u64 0], .iface 43 (.int .i64 2)]) ∧ Below w.heap.size w w' := by
  have H := Lib.hid h
  clear h
  go_enter Tryd.func6, Tryd.ntmps6
  go_wp2_with fail
  refine (over_far l g u a b n _ r0 r1 r3 H.out).mono ?_
  rintro e w1 ⟨rfl, hb1⟩
  have hz1 : w.heap.size + 1 + 1 < w1.heap.size := by have := hb1.size; simp at this; omega
  have B1 := three rfl hb1
  have d1 := keep1 (x := .int .u64 0) (o := 0) (b := w.heap.size + 1 + 1) hb1 (by simp [go_sem])
  have d2 := keep1 (x := .int .u64 0) (o := 1) (b := w.heap.size + 1 + 1) hb1 (by simp [go_sem])
  have f1 := keepF (o := 0) (b := w.heap.size + 1 + 1) hb1 (by simp) (by simp [go_sem])
  have f2 := keepF (o := 1) (b := w.heap.size + 1 + 1) hb1 (by simp) (by simp [go_sem])
  go_wp2_with fail
  refine bodyPost_ret (v := .tuple #[.agg #[.int .u64 0, .int .u64 0], .iface 43 (.int .i64 2)]) (by simp [results, Tryd.results6, go_sem, d1, d2]) rfl ⟨rfl, by first | exact B1 | exact (B1.setCell (by simp; omega) _).setCell (by simp; omega) _⟩
end Clk
end Go.Proofs.YtfapkffdhflliaaDoor
