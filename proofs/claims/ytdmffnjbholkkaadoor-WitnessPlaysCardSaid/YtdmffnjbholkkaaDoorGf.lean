/-
  WitnessPlays: over a script that comes in. Own work.
-/
import Derived.Test.YtdmffnjbholkkaaDoorGe
import Derived.Test.YtdmffnjbholkkaaDoorOpn
namespace Go.Proofs.YtdmffnjbholkkaaDoor
open Go.RowKit Go.ChangeShapes
set_option linter.unusedVariables false
namespace Wt
open Kc Mk
theorem witnessPlays_walk (a0 : Option Addr) (len0 cap0 : Nat) {w : World} (w0 : IsRecs [.i64, .i64, .i64, .i64, .i64] w a0 len0 cap0) (hg : Et w) (ht : Laid.KTab w) :
    Calls Tryd.prog 3 #[.slice a0 len0 cap0] w fun e w' => e = .returned (.bool true) ∧ Below w.heap.size w w' := by
  rcases w0 with ⟨rfl, rfl, rfl⟩ | ⟨hl, hm, hi⟩
  · exact plays_in none 0 0 w (by decide) (fun i hi => by omega) hg ht
  · unfold maxLen at hm
    refine plays_in a0 len0 cap0 w (by omega) (fun i hil => ?_) hg ht
    obtain ⟨c, off, rfl, hc⟩ := hi i hil
    obtain ⟨k, c0, _⟩ := hc 0 .i64 rfl
    obtain ⟨a, c1, _⟩ := hc 1 .i64 rfl
    obtain ⟨b, c2, _⟩ := hc 2 .i64 rfl
    obtain ⟨d, c3, _⟩ := hc 3 .i64 rfl
    obtain ⟨v, c4, _⟩ := hc 4 .i64 rfl
    exact ⟨c, off, k, a, b, d, v, rfl, c0, c1, c2, c3, c4⟩
end Wt
end Go.Proofs.YtdmffnjbholkkaaDoor
