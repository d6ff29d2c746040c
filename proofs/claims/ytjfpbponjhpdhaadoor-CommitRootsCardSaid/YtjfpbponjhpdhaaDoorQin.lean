/-
  A region that draws its order, whose own operations only read and whose callees may make memory: one walk of the text's order, in a class of worlds. Own work, over the guide's theorem of quiet regions.
-/
import Derived.WalkKit
import Derived.BigQuiet
import Derived.Deep.QuietTactic
namespace Go.Proofs.YtjfpbponjhpdhaaDoor
open Go.RowKit
set_option linter.unusedVariables false
/-- A world of the class R. -/
structure Wd (R : World → Prop) where
  val : World
  ok : R val
theorem wp_region_in {P : Program} {id : Nat} {Q : Exit → Act → World → Prop} {a : Act} {w : World} {l : List Oper} (R : World → Prop) (hm : P.follows .mixedOrders = true) (hB : Region.lexB .any l.toArray = true) (hR : R w.drew)
    (h : wpQuiet P l.toArray (fun w' => ∃ s : Wd R, w' = s.val) (fun a' => ∀ w', (∃ s : Wd R, w' = s.val) → Q .normal a' w') l a) : (Code.region id l.toArray true).wp P Q a w :=
  wp_region_quiet (C := fun w' => ∃ s : Wd R, w' = s.val) hm hB ⟨⟨_, hR⟩, rfl⟩ (by simpa using h)
/-- A contract over worlds of the class, from one that makes memory alone. -/
theorem in_of_below {P : Program} {f : FuncId} {args : Array Value} {v : Value} {R : World → Prop} (s : Wd R) (hR : ∀ y, Below s.val.heap.size s.val y → R y) (h : Calls P f args s.val fun e w' => e = .returned v ∧ Below s.val.heap.size s.val w') :
    Calls P f args s.val fun e w' => e = .returned v ∧ ∃ s' : Wd R, w' = s'.val :=
  h.mono fun e w' ⟨he, hb⟩ => ⟨he, ⟨w', hR w' hb⟩, rfl⟩
theorem in_of_same {P : Program} {f : FuncId} {args : Array Value} {v : Value} {R : World → Prop} (s : Wd R) (h : Calls P f args s.val fun e w' => e = .returned v ∧ s.val = w') :
    Calls P f args s.val fun e w' => e = .returned v ∧ ∃ s' : Wd R, w' = s'.val :=
  h.mono fun e w' ⟨he, hb⟩ => ⟨he, s, hb.symm⟩
end Go.Proofs.YtjfpbponjhpdhaaDoor
