/-
  Merkle trees over digests: plain definitions and facts. Own work; no Go in sight.
-/
import Derived.Test.YtdmffnjbholkkaaDoorK1
import Derived.Test.YtdmffnjbholkkaaDoorEqa
namespace Go.Proofs.YtdmffnjbholkkaaDoor
set_option linter.unusedVariables false
namespace Mk
open Kc
abbrev Hx := Nat → Bt
def pr (x y : Hx) : Hx := sum (both x y)
theorem both_cong {x x' y y' : Hx} (h : ∀ i, i < 32 → x i = x' i) (k : ∀ i, i < 32 → y i = y' i) : both x y = both x' y' := by
  unfold both
  rw [List.map_congr_left (g := x') (fun i hi => h i (by simpa using hi)), List.map_congr_left (g := y') (fun i hi => k i (by simpa using hi))]
def zero : Nat → Hx
  | 0 => fun _ => 0#8
  | h + 1 => pr (zero h) (zero h)
/-- The root of the part of height h that begins at the leaf k. -/
def und (g : Nat → Hx) : Nat → Nat → Hx
  | 0, k => g k
  | h + 1, k => pr (und g h k) (und g h (k + 2 ^ h))
/-- n leaves, and noughts behind. -/
def ext (n : Nat) (f : Nat → Hx) : Nat → Hx := fun k => if k < n then f k else zero 0
/-- A level: the parts of height h, one by one. -/
def lev (g : Nat → Hx) (h : Nat) : Nat → Hx := fun k => und g h (k * 2 ^ h)
/-- How many are kept of a level. -/
def cnt (n : Nat) : Nat → Nat
  | 0 => n
  | h + 1 => (cnt n h + 1) / 2
/-! ## paths -/
/-- What stands beside the way to the leaf i, at height h. -/
def sib (g : Nat → Hx) (i h : Nat) : Hx := lev g h ((i / 2 ^ h) ^^^ 1)
/-- A leaf folded with d digests of a path. -/
def fold (i : Nat) (x : Hx) (p : Nat → Hx) : Nat → Hx
  | 0 => x
  | d + 1 => if (i / 2 ^ d) % 2 = 0 then pr (fold i x p d) (p d) else pr (p d) (fold i x p d)
/-- With another leaf at a place. -/
def put (g : Nat → Hx) (i : Nat) (x : Hx) : Nat → Hx := fun k => if k = i then x else g k
theorem fold_cong {i : Nat} {x y : Hx} {p q : Nat → Hx} (hx : x = y) : ∀ d, (∀ h, h < d → p h = q h) → fold i x p d = fold i y q d
  | 0, _ => hx
  | d + 1, h => by unfold fold; rw [fold_cong hx d (fun k hk => h k (by omega)), h d (by omega)]
end Mk
end Go.Proofs.YtdmffnjbholkkaaDoor
