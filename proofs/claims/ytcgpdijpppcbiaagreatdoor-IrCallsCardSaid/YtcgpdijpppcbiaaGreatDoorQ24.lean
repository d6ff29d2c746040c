/- Merged of Zj Zk Zl Zm Zn Zo Zp Zq. Own work. -/
import Derived.Test.YtcgpdijpppcbiaaGreatDoorQ23
namespace Go.Proofs.YtcgpdijpppcbiaaGreatDoor
open Go.RowKit
set_option linter.unusedVariables false
set_option linter.unusedSimpArgs false
section
variable {P : Program}
theorem wp_build1h {op : Oper} {a : Act} {w : World} {K : Act → World → Prop} {Q : Exit → Act → World → Prop} (t : TypeId) (x : Operand) (ho : op.op = .buildSlice t 1 #[(0, x)]) (p v : Value) (hx : a.eval x = p) (w' : World) (hl : (Instr.buildSlice t 1 #[(0, p)]).run P w = .ok v w')
    (h : K (a.put op.dst v) w') : op.wp P a w K Q := by
  unfold Oper.wp execOp
  simp only [ho, List.map_toArray, List.map_cons, List.map_nil, hx]
  simp [hl]
  exact h
end
namespace Wt
open Kc Mk
theorem zcellsH : (dv fun _ => 0#8).cells.size = 32 := by show (tab 32 _).size = 32; rw [tab_size]
theorem flat1h (x : Hx) : flat 1 (fun _ => x) = (tab 32 fun i => bv (x i)).toList := by
  unfold flat tab
  simp only [Nat.mul_one]
  exact List.map_congr_left fun i hi => by rw [Nat.mod_eq_of_lt (by simpa using hi)]
theorem own_slice {w : World} {base e size n : Nat} {v : Value} {xs : List Value} (h : w.ownsRow base e size v n xs) : ∃ a m c, v = .slice a m c := by
  rcases h.2 with ⟨rfl, _⟩ | ⟨g, cap, cur, rfl, _, hg, _⟩
  · exact ⟨_, _, _, rfl⟩
  · exact ⟨_, _, _, rfl⟩
theorem own_lt {w : World} {base e size n k : Nat} {v : Value} {xs : List Value} (h : w.ownsRow base e size v n xs) (hk : v.ownBlock = some k) : k < w.heap.size := by
  rcases h.2 with ⟨rfl, _⟩ | ⟨g, cap, cur, rfl, _, hg, _⟩
  · cases hk
  · cases hk; exact (Array.getElem?_eq_some_iff.1 hg).1
section
variable {w : World} {T : Nat → Prop} {s kb pb qb : Nat} {S : Sto} {av : Value}
end
end Wt
end Go.Proofs.YtcgpdijpppcbiaaGreatDoor
namespace Go.Proofs.YtcgpdijpppcbiaaGreatDoor
open Go.RowKit
set_option linter.unusedVariables false
set_option linter.unusedSimpArgs false
namespace Wt
open Kc Mk
end Wt
end Go.Proofs.YtcgpdijpppcbiaaGreatDoor
namespace Go.Proofs.YtcgpdijpppcbiaaGreatDoor
open Go.RowKit
set_option linter.unusedVariables false
set_option linter.unusedSimpArgs false
namespace Wt
open Kc Mk
end Wt
end Go.Proofs.YtcgpdijpppcbiaaGreatDoor
namespace Go.Proofs.YtcgpdijpppcbiaaGreatDoor
open Go.RowKit
set_option linter.unusedVariables false
set_option linter.unusedSimpArgs false
namespace Wt
open Kc Mk
end Wt
end Go.Proofs.YtcgpdijpppcbiaaGreatDoor
namespace Go.Proofs.YtcgpdijpppcbiaaGreatDoor
open Go.RowKit
set_option linter.unusedVariables false
set_option linter.unusedSimpArgs false
namespace Wt
open Kc Mk
end Wt
end Go.Proofs.YtcgpdijpppcbiaaGreatDoor
namespace Go.Proofs.YtcgpdijpppcbiaaGreatDoor
open Go.RowKit
set_option linter.unusedVariables false
set_option linter.unusedSimpArgs false
namespace Wt
open Kc Mk
end Wt
end Go.Proofs.YtcgpdijpppcbiaaGreatDoor
namespace Go.Proofs.YtcgpdijpppcbiaaGreatDoor
open Go.RowKit
set_option linter.unusedVariables false
set_option linter.unusedSimpArgs false
section
variable {P : Program}
end
namespace Wt
open Kc Mk
end Wt
end Go.Proofs.YtcgpdijpppcbiaaGreatDoor
namespace Go.Proofs.YtcgpdijpppcbiaaGreatDoor
open Go.RowKit
set_option linter.unusedVariables false
set_option linter.unusedSimpArgs false
namespace Wt
open Kc Mk
end Wt
end Go.Proofs.YtcgpdijpppcbiaaGreatDoor
