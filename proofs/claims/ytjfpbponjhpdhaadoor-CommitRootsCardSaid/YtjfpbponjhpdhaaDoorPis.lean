/-
  The permutation is what its contract says. Own work.
-/
import Derived.Test.YtjfpbponjhpdhaaDoorKperm
namespace Go.Proofs.YtjfpbponjhpdhaaDoor
namespace Kc
theorem permIs : PermIs := fun a w h => perm_walk a w h
end Kc
end Go.Proofs.YtjfpbponjhpdhaaDoor
