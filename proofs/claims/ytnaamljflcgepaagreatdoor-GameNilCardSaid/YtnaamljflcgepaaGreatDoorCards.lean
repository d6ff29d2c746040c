/-
  DERIVED. GIVEN WITH THE SEED: THE CARDS: each row of YtnaamljflcgepaaGreatDoorRows.lean that lists a variable, with what it lists TIED to the program's text (the seventh form; the later family's looks); each row that meets fmt, with fmt's text TOLD by the authors' own Lean function (tested against real Go, not proved from fmt's source: count such statements apart). THE CARD IS WHAT COUNTS. Prove the row's statement (the work); the ties are given (YtnaamljflcgepaaGreatDoorTie.lean); close each card by the builder's one call (the guide's Derived/Test/ToyasCard.lean, 'card_holds'). Laid BY PROGRAM, IN A SANDBOX (cutbox-door.mjs). By AI agents, Wed Nov 11 2026. No macro, syntax, notation, axiom, sorry.
-/
import Derived.Test.YtnaamljflcgepaaGreatDoorRows
import GoSem.ClaimSeven
namespace Go.Proofs.YtnaamljflcgepaaGreatDoor
namespace Rows

/-- THE TIED CARD OF 'mootlaw19.GameNil'. -/
def gameNilCard : Claim7 := { stood := { row := gameNilRow, standIns := [], harness := (true, "acb9f0df0f6d93a656d0ae2bb9f09e9ac4ba24463f3b9f95975d4c1cc04dcdb9"), looks := true }, kinds := [], alts := [], laidByText := true, laidKinds := [.handle, .data], laidTests := true, laidLooks := .later }
def GameNilCardSaid : Prop := Claim7.holds Tryz.pinned (.plain (OpenSpec.ofChange gameNilSpec)) gameNilCard

/-- THE SECOND FORM's CARD OF 'mootlaw19.GameNil'. -/
def gameNilUptoCard : Claim7 := { stood := { row := gameNilUptoRow, standIns := [], harness := (true, "acb9f0df0f6d93a656d0ae2bb9f09e9ac4ba24463f3b9f95975d4c1cc04dcdb9"), looks := true }, kinds := [], alts := [], laidByText := true, laidKinds := [.handle, .data], laidTests := true, laidLooks := .later }
def GameNilUptoCardSaid : Prop := Claim7.holds Tryz.pinned (.plain (OpenSpec.upto gameNilSpec)) gameNilUptoCard
end Rows
end Go.Proofs.YtnaamljflcgepaaGreatDoor
