/-
  DERIVED. GIVEN WITH THE SEED: THE CARDS: each row of YtjfpbponjhpdhaaDoorRows.lean that lists a variable, with what it lists TIED to the program's text (the seventh form; the later family's looks); each row that meets fmt, with fmt's text TOLD by the authors' own Lean function (tested against real Go, not proved from fmt's source: count such statements apart). THE CARD IS WHAT COUNTS. Prove the row's statement (the work); the ties are given (YtjfpbponjhpdhaaDoorTie.lean); close each card by the builder's one call (the guide's Derived/Test/ToyasCard.lean, 'card_holds'). Laid BY PROGRAM, IN A SANDBOX (cutbox-door.mjs). By AI agents, Wed Nov 11 2026. No macro, syntax, notation, axiom, sorry.
-/
import Derived.Test.YtjfpbponjhpdhaaDoorRows
import GoSem.ClaimSeven
namespace Go.Proofs.YtjfpbponjhpdhaaDoor
namespace Rows

/-- THE TIED CARD OF 'mootlaw11.CommitSteps'. -/
def commitStepsCard : Claim7 := { stood := { row := commitStepsRow, standIns := [], harness := (true, "873bcbbc6c1dda93d78247de08125b07dc45549c3cdea8eab83c3cf18a184a99"), looks := true }, kinds := [], alts := [], laidByText := true, laidKinds := [.data], laidTests := true, laidLooks := .later }
def CommitStepsCardSaid : Prop := Claim7.holds Tryd.pinned (.plain (OpenSpec.ofChange commitStepsSpec)) commitStepsCard

/-- THE TIED CARD OF 'mootlaw11.CommitRoots'. -/
def commitRootsCard : Claim7 := { stood := { row := commitRootsRow, standIns := [], harness := (true, "873bcbbc6c1dda93d78247de08125b07dc45549c3cdea8eab83c3cf18a184a99"), looks := true }, kinds := [], alts := [], laidByText := true, laidKinds := [.data], laidTests := true, laidLooks := .later }
def CommitRootsCardSaid : Prop := Claim7.holds Tryd.pinned (.plain (OpenSpec.ofChange commitRootsSpec)) commitRootsCard

/-- THE TIED CARD OF 'mootlaw11.CommitRuns'. -/
def commitRunsCard : Claim7 := { stood := { row := commitRunsRow, standIns := [], harness := (true, "873bcbbc6c1dda93d78247de08125b07dc45549c3cdea8eab83c3cf18a184a99"), looks := true }, kinds := [], alts := [], laidByText := true, laidKinds := [.data], laidTests := true, laidLooks := .later }
def CommitRunsCardSaid : Prop := Claim7.holds Tryd.pinned (.plain (OpenSpec.ofChange commitRunsSpec)) commitRunsCard

/-- THE TIED CARD OF 'mootlaw15.OnestepNil'. -/
def onestepNilCard : Claim7 := { stood := { row := onestepNilRow, standIns := [], harness := (true, "873bcbbc6c1dda93d78247de08125b07dc45549c3cdea8eab83c3cf18a184a99"), looks := true }, kinds := [], alts := [], laidByText := true, laidKinds := [.data], laidTests := true, laidLooks := .later }
def OnestepNilCardSaid : Prop := Claim7.holds Tryd.pinned (.plain (OpenSpec.ofChange onestepNilSpec)) onestepNilCard

/-- THE SECOND FORM's CARD OF 'mootlaw11.CommitSteps'. -/
def commitStepsUptoCard : Claim7 := { stood := { row := commitStepsUptoRow, standIns := [], harness := (true, "873bcbbc6c1dda93d78247de08125b07dc45549c3cdea8eab83c3cf18a184a99"), looks := true }, kinds := [], alts := [], laidByText := true, laidKinds := [.data], laidTests := true, laidLooks := .later }
def CommitStepsUptoCardSaid : Prop := Claim7.holds Tryd.pinned (.plain (OpenSpec.upto commitStepsSpec)) commitStepsUptoCard

/-- THE SECOND FORM's CARD OF 'mootlaw11.CommitRoots'. -/
def commitRootsUptoCard : Claim7 := { stood := { row := commitRootsUptoRow, standIns := [], harness := (true, "873bcbbc6c1dda93d78247de08125b07dc45549c3cdea8eab83c3cf18a184a99"), looks := true }, kinds := [], alts := [], laidByText := true, laidKinds := [.data], laidTests := true, laidLooks := .later }
def CommitRootsUptoCardSaid : Prop := Claim7.holds Tryd.pinned (.plain (OpenSpec.upto commitRootsSpec)) commitRootsUptoCard

/-- THE SECOND FORM's CARD OF 'mootlaw11.CommitRuns'. -/
def commitRunsUptoCard : Claim7 := { stood := { row := commitRunsUptoRow, standIns := [], harness := (true, "873bcbbc6c1dda93d78247de08125b07dc45549c3cdea8eab83c3cf18a184a99"), looks := true }, kinds := [], alts := [], laidByText := true, laidKinds := [.data], laidTests := true, laidLooks := .later }
def CommitRunsUptoCardSaid : Prop := Claim7.holds Tryd.pinned (.plain (OpenSpec.upto commitRunsSpec)) commitRunsUptoCard

/-- THE SECOND FORM's CARD OF 'mootlaw15.OnestepNil'. -/
def onestepNilUptoCard : Claim7 := { stood := { row := onestepNilUptoRow, standIns := [], harness := (true, "873bcbbc6c1dda93d78247de08125b07dc45549c3cdea8eab83c3cf18a184a99"), looks := true }, kinds := [], alts := [], laidByText := true, laidKinds := [.data], laidTests := true, laidLooks := .later }
def OnestepNilUptoCardSaid : Prop := Claim7.holds Tryd.pinned (.plain (OpenSpec.upto onestepNilSpec)) onestepNilUptoCard
end Rows
end Go.Proofs.YtjfpbponjhpdhaaDoor
