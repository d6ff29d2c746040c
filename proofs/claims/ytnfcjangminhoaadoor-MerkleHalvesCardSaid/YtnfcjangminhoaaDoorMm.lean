/-
  min and max of integers, as run equations for the walk. Own work.
-/
import Derived.WalkKit
namespace Go.Proofs.YtnfcjangminhoaaDoor
namespace Mm
theorem run_max2 {P : Program} {ts : Array TypeId} {t : TypeId} {k : IntKind} (a b : Int) (w : World) :
    (Builtin.max_ ts t #[.int k a, .int k b]).run P w = .ok (.int k (max a b)) w := by
  have e : (if b > a then b else a) = max a b := by split <;> omega
  simp [Builtin.max_, Builtin.max2, e]
theorem run_min2 {P : Program} {ts : Array TypeId} {t : TypeId} {k : IntKind} (a b : Int) (w : World) :
    (Builtin.min_ ts t #[.int k a, .int k b]).run P w = .ok (.int k (min a b)) w := by
  have e : (if b < a then b else a) = min a b := by split <;> omega
  simp [Builtin.min_, Builtin.min2, e]
theorem run_max4 {P : Program} {ts : Array TypeId} {t : TypeId} {k : IntKind} (a b c d : Int) (w : World) :
    (Builtin.max_ ts t #[.int k a, .int k b, .int k c, .int k d]).run P w = .ok (.int k (max a (max b (max c d)))) w := by
  have e1 : (if b > a then b else a) = max a b := by split <;> omega
  have e2 : (if c > max a b then c else max a b) = max (max a b) c := by split <;> omega
  simp [Builtin.max_, Builtin.max2, e1, e2]
  split <;> omega
end Mm
end Go.Proofs.YtnfcjangminhoaaDoor
