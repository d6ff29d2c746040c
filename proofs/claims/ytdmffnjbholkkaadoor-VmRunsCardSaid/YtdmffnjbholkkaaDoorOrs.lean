/-
  A region that draws its order, in one order that serves every order; what every world of it is known to hold may grow from operation to operation. Own work, over the guide's laws of held regions.
-/
import Derived.Test.YtdmffnjbholkkaaDoorTks
namespace Go.Proofs.YtdmffnjbholkkaaDoor
open Go.RowKit
set_option linter.unusedVariables false
section
variable {P : Program} {ops : Array Oper} {Q : Exit → Act → World → Prop}
theorem wpAnyH_weaken {md : Region.Mode} {S S' : World → Prop} (hS : ∀ y, S' y → S y) : ∀ (fuel : Nat) (listed : Array Bool) (a : Act) (w : World), wpAnyH P md ops Q S' fuel listed a w → wpAnyH P md ops Q S fuel listed a w
  | 0, _, _, _, h => h
  | fuel + 1, listed, a, w, h => ⟨h.1, fun i hi => wpOp_mono (fun a' w' h' => ⟨hS _ h'.1, wpAnyH_weaken hS fuel _ a' w' h'.2⟩) (h.2 i hi)⟩
def wpOrs (P : Program) (ops : Array Oper) (Q : Exit → Act → World → Prop) : List (Nat × Bool) → (World → Prop) → Act → World → Prop
  | [], _, a, w => Q .normal a w
  | (k, true) :: r, S, a, w => ∃ o v, ops[k]? = some o ∧ YieldsIf P ops S o v a ∧ wpOrs P ops Q r S (a.put o.dst v) w
  | (k, false) :: r, S, a, w => ∃ o, ops[k]? = some o ∧ Region.wanted o (yielded ops a.tmps) = true ∧ o.wp P a w (fun a' w' => ∃ S' : World → Prop, (∀ y, S' y → S y) ∧ S' w' ∧ wpOrs P ops Q r S' a' w') Q
def orsB (ops : Array Oper) : List (Nat × Bool) → Array Bool → Bool
  | [], l => (Region.ready .any ops l).isEmpty
  | (k, true) :: r, l => (Region.ready .any ops l).contains k && Region.free .any ops l k && orsB ops r (l.setIfInBounds k true)
  | (k, false) :: r, l => decide (Region.ready .any ops l = [k]) && orsB ops r (l.setIfInBounds k true)
end
end Go.Proofs.YtdmffnjbholkkaaDoor
