/-
  The loops of a code, in the text's order, none inside another. Own work.
-/
import Derived.Below
namespace Go.Proofs.YtnfcjangminhoaaDoor
def loopsOf : Code → List Code
  | .loop c => [c]
  | .seq a b => loopsOf a ++ loopsOf b
  | .block _ c => loopsOf c
  | .scope c => loopsOf c
  | .cond _ a b => loopsOf a ++ loopsOf b
  | _ => []
/-- The loop number n of a code, by its body. -/
def loopAt (n : Nat) (c : Code) : Code := (loopsOf c).getD n .skip
end Go.Proofs.YtnfcjangminhoaaDoor
