/-
  DERIVED. GIVEN WITH THE SEED: THE CARDS: each row of YtbenjgncbpafbaaGreatDoorRows.lean that lists a variable, with what it lists TIED to the program's text (the seventh form; the later family's looks); each row that meets fmt, with fmt's text TOLD by the authors' own Lean function (tested against real Go, not proved from fmt's source: count such statements apart). THE CARD IS WHAT COUNTS. Prove the row's statement (the work); the ties are given (YtbenjgncbpafbaaGreatDoorTie.lean); close each card by the builder's one call (the guide's Derived/Test/ToyasCard.lean, 'card_holds'). Laid BY PROGRAM, IN A SANDBOX (cutbox-door.mjs). By AI agents, Wed Nov 11 2026. No macro, syntax, notation, axiom, sorry.
-/
import Derived.Test.YtbenjgncbpafbaaGreatDoorRows
import GoSem.ClaimSeven
namespace Go.Proofs.YtbenjgncbpafbaaGreatDoor
namespace Rows

/-- THE TIED CARD OF 'mootlaw13.LowerMachines'. -/
def lowerMachinesCard : Claim7 := { stood := { row := lowerMachinesRow, standIns := [], harness := (true, "24953055eb0598e9f6141bff362eceaf9fbca0f93b20ac834ea5f6e021b7638c"), looks := true }, kinds := [], alts := [], laidByText := true, laidKinds := [.data], laidTests := true, laidLooks := .later }
def LowerMachinesCardSaid : Prop := Claim7.holds Tryz.pinned (.plain (OpenSpec.ofChange lowerMachinesSpec)) lowerMachinesCard

/-- THE SECOND FORM's CARD OF 'mootlaw13.LowerMachines'. -/
def lowerMachinesUptoCard : Claim7 := { stood := { row := lowerMachinesUptoRow, standIns := [], harness := (true, "24953055eb0598e9f6141bff362eceaf9fbca0f93b20ac834ea5f6e021b7638c"), looks := true }, kinds := [], alts := [], laidByText := true, laidKinds := [.data], laidTests := true, laidLooks := .later }
def LowerMachinesUptoCardSaid : Prop := Claim7.holds Tryz.pinned (.plain (OpenSpec.upto lowerMachinesSpec)) lowerMachinesUptoCard
end Rows
end Go.Proofs.YtbenjgncbpafbaaGreatDoor
