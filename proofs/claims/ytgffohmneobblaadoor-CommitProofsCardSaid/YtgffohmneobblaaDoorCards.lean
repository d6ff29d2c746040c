/-
  DERIVED. GIVEN WITH THE SEED: THE CARDS: each row of YtgffohmneobblaaDoorRows.lean that lists a variable, with what it lists TIED to the program's text (the seventh form; the later family's looks); each row that meets fmt, with fmt's text TOLD by the authors' own Lean function (tested against real Go, not proved from fmt's source: count such statements apart). THE CARD IS WHAT COUNTS. Prove the row's statement (the work); the ties are given (YtgffohmneobblaaDoorTie.lean); close each card by the builder's one call (the guide's Derived/Test/ToyasCard.lean, 'card_holds'). Laid BY PROGRAM, IN A SANDBOX (cutbox-door.mjs). By AI agents, Wed Nov 11 2026. No macro, syntax, notation, axiom, sorry.
-/
import Derived.Test.YtgffohmneobblaaDoorRows
import GoSem.ClaimSeven
namespace Go.Proofs.YtgffohmneobblaaDoor
namespace Rows

/-- THE TIED CARD OF 'mootlaw11.CommitSteps'. -/
def commitStepsCard : Claim7 := { stood := { row := commitStepsRow, standIns := [], harness := (true, "828e20d9bf39fabb2efb27c7e207f457a848057877ffaaf747085007825054b6"), looks := true }, kinds := [], alts := [], laidByText := true, laidKinds := [.data], laidTests := true, laidLooks := .later }
def CommitStepsCardSaid : Prop := Claim7.holds Tryd.pinned (.plain (OpenSpec.ofChange commitStepsSpec)) commitStepsCard

/-- THE TIED CARD OF 'mootlaw11.CommitOrder'. -/
def commitOrderCard : Claim7 := { stood := { row := commitOrderRow, standIns := [], harness := (true, "828e20d9bf39fabb2efb27c7e207f457a848057877ffaaf747085007825054b6"), looks := true }, kinds := [], alts := [], laidByText := true, laidKinds := [.data], laidTests := true, laidLooks := .later }
def CommitOrderCardSaid : Prop := Claim7.holds Tryd.pinned (.plain (OpenSpec.ofChange commitOrderSpec)) commitOrderCard

/-- THE TIED CARD OF 'mootlaw11.CommitRoots'. -/
def commitRootsCard : Claim7 := { stood := { row := commitRootsRow, standIns := [], harness := (true, "828e20d9bf39fabb2efb27c7e207f457a848057877ffaaf747085007825054b6"), looks := true }, kinds := [], alts := [], laidByText := true, laidKinds := [.data], laidTests := true, laidLooks := .later }
def CommitRootsCardSaid : Prop := Claim7.holds Tryd.pinned (.plain (OpenSpec.ofChange commitRootsSpec)) commitRootsCard

/-- THE TIED CARD OF 'mootlaw11.CommitProofs'. -/
def commitProofsCard : Claim7 := { stood := { row := commitProofsRow, standIns := [], harness := (true, "828e20d9bf39fabb2efb27c7e207f457a848057877ffaaf747085007825054b6"), looks := true }, kinds := [], alts := [], laidByText := true, laidKinds := [.data], laidTests := true, laidLooks := .later }
def CommitProofsCardSaid : Prop := Claim7.holds Tryd.pinned (.plain (OpenSpec.ofChange commitProofsSpec)) commitProofsCard

/-- THE TIED CARD OF 'mootlaw11.CommitNil'. -/
def commitNilCard : Claim7 := { stood := { row := commitNilRow, standIns := [], harness := (true, "828e20d9bf39fabb2efb27c7e207f457a848057877ffaaf747085007825054b6"), looks := true }, kinds := [], alts := [], laidByText := true, laidKinds := [.data], laidTests := true, laidLooks := .later }
def CommitNilCardSaid : Prop := Claim7.holds Tryd.pinned (.plain (OpenSpec.ofChange commitNilSpec)) commitNilCard

/-- THE TIED CARD OF 'mootlaw11.CommitRuns'. -/
def commitRunsCard : Claim7 := { stood := { row := commitRunsRow, standIns := [], harness := (true, "828e20d9bf39fabb2efb27c7e207f457a848057877ffaaf747085007825054b6"), looks := true }, kinds := [], alts := [], laidByText := true, laidKinds := [.data], laidTests := true, laidLooks := .later }
def CommitRunsCardSaid : Prop := Claim7.holds Tryd.pinned (.plain (OpenSpec.ofChange commitRunsSpec)) commitRunsCard

/-- THE SECOND FORM's CARD OF 'mootlaw11.CommitSteps'. -/
def commitStepsUptoCard : Claim7 := { stood := { row := commitStepsUptoRow, standIns := [], harness := (true, "828e20d9bf39fabb2efb27c7e207f457a848057877ffaaf747085007825054b6"), looks := true }, kinds := [], alts := [], laidByText := true, laidKinds := [.data], laidTests := true, laidLooks := .later }
def CommitStepsUptoCardSaid : Prop := Claim7.holds Tryd.pinned (.plain (OpenSpec.upto commitStepsSpec)) commitStepsUptoCard

/-- THE SECOND FORM's CARD OF 'mootlaw11.CommitOrder'. -/
def commitOrderUptoCard : Claim7 := { stood := { row := commitOrderUptoRow, standIns := [], harness := (true, "828e20d9bf39fabb2efb27c7e207f457a848057877ffaaf747085007825054b6"), looks := true }, kinds := [], alts := [], laidByText := true, laidKinds := [.data], laidTests := true, laidLooks := .later }
def CommitOrderUptoCardSaid : Prop := Claim7.holds Tryd.pinned (.plain (OpenSpec.upto commitOrderSpec)) commitOrderUptoCard

/-- THE SECOND FORM's CARD OF 'mootlaw11.CommitRoots'. -/
def commitRootsUptoCard : Claim7 := { stood := { row := commitRootsUptoRow, standIns := [], harness := (true, "828e20d9bf39fabb2efb27c7e207f457a848057877ffaaf747085007825054b6"), looks := true }, kinds := [], alts := [], laidByText := true, laidKinds := [.data], laidTests := true, laidLooks := .later }
def CommitRootsUptoCardSaid : Prop := Claim7.holds Tryd.pinned (.plain (OpenSpec.upto commitRootsSpec)) commitRootsUptoCard

/-- THE SECOND FORM's CARD OF 'mootlaw11.CommitProofs'. -/
def commitProofsUptoCard : Claim7 := { stood := { row := commitProofsUptoRow, standIns := [], harness := (true, "828e20d9bf39fabb2efb27c7e207f457a848057877ffaaf747085007825054b6"), looks := true }, kinds := [], alts := [], laidByText := true, laidKinds := [.data], laidTests := true, laidLooks := .later }
def CommitProofsUptoCardSaid : Prop := Claim7.holds Tryd.pinned (.plain (OpenSpec.upto commitProofsSpec)) commitProofsUptoCard

/-- THE SECOND FORM's CARD OF 'mootlaw11.CommitNil'. -/
def commitNilUptoCard : Claim7 := { stood := { row := commitNilUptoRow, standIns := [], harness := (true, "828e20d9bf39fabb2efb27c7e207f457a848057877ffaaf747085007825054b6"), looks := true }, kinds := [], alts := [], laidByText := true, laidKinds := [.data], laidTests := true, laidLooks := .later }
def CommitNilUptoCardSaid : Prop := Claim7.holds Tryd.pinned (.plain (OpenSpec.upto commitNilSpec)) commitNilUptoCard

/-- THE SECOND FORM's CARD OF 'mootlaw11.CommitRuns'. -/
def commitRunsUptoCard : Claim7 := { stood := { row := commitRunsUptoRow, standIns := [], harness := (true, "828e20d9bf39fabb2efb27c7e207f457a848057877ffaaf747085007825054b6"), looks := true }, kinds := [], alts := [], laidByText := true, laidKinds := [.data], laidTests := true, laidLooks := .later }
def CommitRunsUptoCardSaid : Prop := Claim7.holds Tryd.pinned (.plain (OpenSpec.upto commitRunsSpec)) commitRunsUptoCard
end Rows
end Go.Proofs.YtgffohmneobblaaDoor
