/-
  The permutation is what its contract says. Own work.
-/
import Derived.Test.YtgffohmneobblaaDoorKperm
namespace Go.Proofs.YtgffohmneobblaaDoor
namespace Kc
theorem permIs : PermIs := fun a w h => perm_walk a w h
end Kc
end Go.Proofs.YtgffohmneobblaaDoor
