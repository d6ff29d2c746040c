/- Merged. Own work. -/
import Derived.Test.YtdmffnjbholkkaaDoorZk
namespace Go.Proofs.YtdmffnjbholkkaaDoor
open Go.RowKit
set_option linter.unusedVariables false
set_option linter.unusedSimpArgs false
set_option linter.unusedVariables false
set_option linter.unusedSimpArgs false
namespace Wt
open Kc Mk
def nilE : Value := .iface 62 (.int .i64 1)
end Wt
end Go.Proofs.YtdmffnjbholkkaaDoor
namespace Go.Proofs.YtdmffnjbholkkaaDoor
open Go.RowKit
set_option linter.unusedVariables false
set_option linter.unusedSimpArgs false
section
variable {P : Program}
end
namespace Wt
open Kc Mk
end Wt
end Go.Proofs.YtdmffnjbholkkaaDoor
