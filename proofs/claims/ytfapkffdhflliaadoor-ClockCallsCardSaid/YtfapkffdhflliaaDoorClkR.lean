/-
  Contracts of the document's own answers of layer 17. Own work.
-/
import Derived.Test.YtfapkffdhflliaaDoorClkF
import Derived.Test.YtfapkffdhflliaaDoorWhy
namespace Go.Proofs.YtfapkffdhflliaaDoor
open Go.RowKit
namespace Ref
theorem spent_ok (u a b n : Int) (w : World) (h0 : 0 ≤ a) (h1 : a ≤ n) (h2 : n ≤ 1099511627776) (h3 : 0 ≤ u) (h4 : u ≤ 1099511627776) (h5 : 0 ≤ b) (h6 : b ≤ 1099511627776) :
    Calls Tryd.prog 5 #[.int .u64 u, .int .u64 a, .int .u64 b, .int .u64 n] w fun e w' => e = .returned (.tuple #[.int .u64 (b + (n - a)), .int .i64 0]) ∧ Below w.heap.size w w' := by
  go_enter Tryd.func5, Tryd.ntmps5
  go_wp2
  go_ret2
  exact ⟨rfl, Below.refl _ _⟩
theorem spent_bad (u a b n : Int) (w : World) (h : n < a ∨ 1099511627776 < n ∨ 1099511627776 < u ∨ 1099511627776 < b) :
    Calls Tryd.prog 5 #[.int .u64 u, .int .u64 a, .int .u64 b, .int .u64 n] w fun e w' => e = .returned (.tuple #[.int .u64 0, .int .i64 2]) ∧ Below w.heap.size w w' := by
  by_cases c1 : n < a
  · go_enter Tryd.func5, Tryd.ntmps5
    go_wp2
    go_ret2
    exact ⟨rfl, Below.refl _ _⟩
  · by_cases c2 : 1099511627776 < u
    · go_enter Tryd.func5, Tryd.ntmps5
      go_wp2
      go_ret2
      exact ⟨rfl, Below.refl _ _⟩
    · by_cases c3 : 1099511627776 < a
      · go_enter Tryd.func5, Tryd.ntmps5
        go_wp2
        go_ret2
        exact ⟨rfl, Below.refl _ _⟩
      · by_cases c4 : 1099511627776 < b
        · go_enter Tryd.func5, Tryd.ntmps5
          go_wp2
          go_ret2
          exact ⟨rfl, Below.refl _ _⟩
        · have c5 : 1099511627776 < n := by omega
          go_enter Tryd.func5, Tryd.ntmps5
          go_wp2
          go_ret2
          exact ⟨rfl, Below.refl _ _⟩
theorem rules_ok (l g : Int) (w : World) (h0 : 1 ≤ l) (h1 : l ≤ 1099511627776) (h3 : g ≤ l) :
    Calls Tryd.prog 11 #[.int .u64 l, .int .u64 g] w fun e w' => e = .returned (.bool true) ∧ Below w.heap.size w w' := by
  have d : decide (g ≤ l) = true := by simpa using h3
  go_enter Tryd.func11, Tryd.ntmps11
  go_wp2
  go_ret
  exact ⟨rfl, Below.refl _ _⟩
theorem rules_bad (l g : Int) (w : World) (h : l < 1 ∨ 1099511627776 < l ∨ l < g) :
    Calls Tryd.prog 11 #[.int .u64 l, .int .u64 g] w fun e w' => e = .returned (.bool false) ∧ Below w.heap.size w w' := by
  by_cases c1 : 1 ≤ l
  · by_cases c2 : l ≤ 1099511627776
    · have d : decide (g ≤ l) = false := by simp; omega
      go_enter Tryd.func11, Tryd.ntmps11
      go_wp2
      go_ret
      exact ⟨rfl, Below.refl _ _⟩
    · go_enter Tryd.func11, Tryd.ntmps11
      go_wp2
      go_ret
      exact ⟨rfl, Below.refl _ _⟩
  · go_enter Tryd.func11, Tryd.ntmps11
    go_wp2
    go_ret
    exact ⟨rfl, Below.refl _ _⟩
def nextArgs (l g u a b n : Int) : Array Value := #[.int .u64 l, .int .u64 g, .int .u64 u, .int .u64 a, .int .u64 b, .int .u64 n]
theorem next_ok (l g u a b n : Int) (w : World) (r0 : 1 ≤ l) (r1 : l ≤ 1099511627776) (r2 : 0 ≤ g) (r3 : g ≤ l) (h0 : 0 ≤ a) (h1 : a ≤ n) (h2 : n ≤ 1099511627776) (h3 : 0 ≤ u) (h4 : u ≤ 1099511627776) (h5 : 0 ≤ b) (h6 : b ≤ 1099511627776) (hs : b + n - a < l) :
    Calls Tryd.prog 7 #[.int .u64 l, .int .u64 g, .int .u64 u, .int .u64 a, .int .u64 b, .int .u64 n] w fun e w' => e = .returned (.tuple #[.int .u64 (min (b + n - a) (l - g)), .int .i64 0]) ∧ Below w.heap.size w w' := by
  by_cases c : l - g < b + (n - a)
  · have e : min (b + n - a) (l - g) = l - g := by omega
    rw [e]
    go_enter Tryd.func7, Tryd.ntmps7
    go_wp2_with fail
    refine (rules_ok l g _ r0 r1 r3).mono ?_
    rintro e w1 ⟨rfl, hb1⟩
    go_wp2_with fail
    refine (spent_ok u a b n _ h0 h1 h2 h3 h4 h5 h6).mono ?_
    rintro e w2 ⟨rfl, hb2⟩
    go_wp2_with fail
    go_ret2
    exact ⟨rfl, hb1.trans (hb2.mono hb1.size)⟩
  · have e : min (b + n - a) (l - g) = b + (n - a) := by omega
    rw [e]
    go_enter Tryd.func7, Tryd.ntmps7
    go_wp2_with fail
    refine (rules_ok l g _ r0 r1 r3).mono ?_
    rintro e w1 ⟨rfl, hb1⟩
    go_wp2_with fail
    refine (spent_ok u a b n _ h0 h1 h2 h3 h4 h5 h6).mono ?_
    rintro e w2 ⟨rfl, hb2⟩
    go_wp2_with fail
    go_ret2
    exact ⟨rfl, hb1.trans (hb2.mono hb1.size)⟩
theorem next_out (l g u a b n : Int) (w : World) (r0 : 1 ≤ l) (r1 : l ≤ 1099511627776) (r3 : g ≤ l) (h0 : 0 ≤ a) (h1 : a ≤ n) (h2 : n ≤ 1099511627776) (h3 : 0 ≤ u) (h4 : u ≤ 1099511627776) (h5 : 0 ≤ b) (h6 : b ≤ 1099511627776) (hs : l ≤ b + n - a) :
    Calls Tryd.prog 7 #[.int .u64 l, .int .u64 g, .int .u64 u, .int .u64 a, .int .u64 b, .int .u64 n] w fun e w' => e = .returned (.tuple #[.int .u64 0, .int .i64 42]) ∧ Below w.heap.size w w' := by
  go_enter Tryd.func7, Tryd.ntmps7
  go_wp2_with fail
  refine (rules_ok l g _ r0 r1 r3).mono ?_
  rintro e w1 ⟨rfl, hb1⟩
  go_wp2_with fail
  refine (spent_ok u a b n _ h0 h1 h2 h3 h4 h5 h6).mono ?_
  rintro e w2 ⟨rfl, hb2⟩
  go_wp2_with fail
  go_ret2
  exact ⟨rfl, hb1.trans (hb2.mono hb1.size)⟩
theorem next_rules (l g u a b n : Int) (w : World) (h : l < 1 ∨ 1099511627776 < l ∨ l < g) :
    Calls Tryd.prog 7 #[.int .u64 l, .int .u64 g, .int .u64 u, .int .u64 a, .int .u64 b, .int .u64 n] w fun e w' => e = .returned (.tuple #[.int .u64 0, .int .i64 2]) ∧ Below w.heap.size w w' := by
  have H := Lib.hid h
  clear h
  go_enter Tryd.func7, Tryd.ntmps7
  go_wp2_with fail
  refine (rules_bad l g _ H.out).mono ?_
  rintro e w1 ⟨rfl, hb1⟩
  go_wp2_with fail
  go_ret2
  exact ⟨rfl, hb1⟩
theorem next_far (l g u a b n : Int) (w : World) (r0 : 1 ≤ l) (r1 : l ≤ 1099511627776) (r3 : g ≤ l) (h : n < a ∨ 1099511627776 < n ∨ 1099511627776 < u ∨ 1099511627776 < b) :
    Calls Tryd.prog 7 #[.int .u64 l, .int .u64 g, .int .u64 u, .int .u64 a, .int .u64 b, .int .u64 n] w fun e w' => e = .returned (.tuple #[.int .u64 0, .int .i64 2]) ∧ Below w.heap.size w w' := by
  have H := Lib.hid h
  clear h
  go_enter Tryd.func7, Tryd.ntmps7
  go_wp2_with fail
  refine (rules_ok l g _ r0 r1 r3).mono ?_
  rintro e w1 ⟨rfl, hb1⟩
  go_wp2_with fail
  refine (spent_bad u a b n _ H.out).mono ?_
  rintro e w2 ⟨rfl, hb2⟩
  go_wp2_with fail
  go_ret2
  exact ⟨rfl, hb1.trans (hb2.mono hb1.size)⟩
end Ref
/-- 'number' of nothing, and of a number. -/
theorem number_nil (w : World) : Calls Tryd.prog 12 #[.nilIface] w fun e w' => e = .returned (.int .i64 0) ∧ Below w.heap.size w w' := by
  go_enter Tryd.func12, Tryd.ntmps12
  go_wp2_with fail
  refine (why_nil _).mono ?_
  rintro e w1 ⟨rfl, rfl⟩
  go_wp2_with fail
  go_ret
  exact ⟨rfl, Below.refl _ _⟩
theorem number_num (k : Int) (w : World) (hg : w.cell? ⟨0, 0, none⟩ = some (.iface 58 (.agg #[.pointer (some ⟨1, 28, none⟩)]))) :
    Calls Tryd.prog 12 #[.iface 43 (.int .i64 k)] w fun e w' => e = .returned (.int .i64 k) ∧ Below w.heap.size w w' := by
  go_enter Tryd.func12, Tryd.ntmps12
  go_wp2_with fail
  refine (why_num k _ hg).mono ?_
  rintro e w1 ⟨rfl, hb1⟩
  go_wp2_with fail
  go_ret
  exact ⟨rfl, hb1⟩
end Go.Proofs.YtfapkffdhflliaaDoor
