/-
  mootlaw03.Why over nil and over a number. Own work.
-/
import Derived.Test.YtdmffnjbholkkaaDoorAs
import Derived.Test.YtdmffnjbholkkaaDoorRow
import Derived.Outline
namespace Go.Proofs.YtdmffnjbholkkaaDoor
open Go.RowKit
end Go.Proofs.YtdmffnjbholkkaaDoor
