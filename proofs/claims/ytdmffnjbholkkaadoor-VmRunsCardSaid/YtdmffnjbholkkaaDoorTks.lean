/-
  A region that draws its order: its first operations only read (and yield the same in every world that meets S), the others come in a forced order; S is shown behind each of them. Own work, over the guide's laws of held regions.
-/
import Derived.OrdersHeld
import Derived.Deep.RegionHeld3
import Derived.StillTail
import Derived.WalkKit
import Derived.Deep.MidRow
namespace Go.Proofs.YtdmffnjbholkkaaDoor
set_option linter.unusedVariables false
section
variable {P : Program} {ops : Array Oper} {Q : Exit → Act → World → Prop} {S : World → Prop}
/-- One behind the other, S behind each. -/
def wpSeqH (P : Program) (Q : Exit → Act → World → Prop) (S : World → Prop) : List Oper → Act → World → Prop
  | [], a, w => Q .normal a w
  | o :: rest, a, w => o.guard = none ∧ o.wp P a w (fun a' w' => S w' ∧ wpSeqH P Q S rest a' w') Q
/-- The reads, one behind the other. -/
def wpTake (P : Program) (ops : Array Oper) (S : World → Prop) (K : Act → Prop) : List Oper → Act → Prop
  | [], a => K a
  | o :: rest, a => ∃ v, YieldsIf P ops S o v a ∧ wpTake P ops S K rest (a.put o.dst v)
def takeB (ops : Array Oper) : Nat → Nat → Array Bool → Bool
  | 0, _, _ => true
  | f + 1, k, l => (Region.ready .any ops l).contains k && Region.free .any ops l k && takeB ops f (k + 1) (l.setIfInBounds k true)
def listedTo (n : Nat) (l : Array Bool) : Nat → Array Bool
  | 0 => l
  | f + 1 => listedTo (n + 1) (l.setIfInBounds n true) f
def takesB (ops : Array Oper) (n : Nat) : Bool := decide (n ≤ ops.size) && Region.noSelect ops && takeB ops n 0 (Array.replicate ops.size false) && Region.seqB .any ops (ops.size - n) n (listedTo 0 (Array.replicate ops.size false) n)
end
end Go.Proofs.YtdmffnjbholkkaaDoor
