/-
  DERIVED. GIVEN WITH THE SEED: THE CARDS: each row of YtcgpdijpppcbiaaGreatDoorRows.lean that lists a variable, with what it lists TIED to the program's text (the seventh form; the later family's looks); each row that meets fmt, with fmt's text TOLD by the authors' own Lean function (tested against real Go, not proved from fmt's source: count such statements apart). THE CARD IS WHAT COUNTS. Prove the row's statement (the work); the ties are given (YtcgpdijpppcbiaaGreatDoorTie.lean); close each card by the builder's one call (the guide's Derived/Test/ToyasCard.lean, 'card_holds'). Laid BY PROGRAM, IN A SANDBOX (cutbox-door.mjs). By AI agents, Wed Nov 11 2026. No macro, syntax, notation, axiom, sorry.
-/
import Derived.Test.YtcgpdijpppcbiaaGreatDoorRows
import GoSem.ClaimSeven
namespace Go.Proofs.YtcgpdijpppcbiaaGreatDoor
namespace Rows

/-- THE TIED CARD OF 'mootlaw12.IrCalls'. -/
def irCallsCard : Claim7 := { stood := { row := irCallsRow, standIns := [], harness := (true, "e2c297bb2e09a7be2e623f4438930212384ed0b559e88b8f90a9ecc0c3512edc"), looks := true }, kinds := [], alts := [], laidByText := true, laidKinds := [.data], laidTests := true, laidLooks := .later }
def IrCallsCardSaid : Prop := Claim7.holds Tryz.pinned (.plain (OpenSpec.ofChange irCallsSpec)) irCallsCard

/-- THE TIED CARD OF 'mootlaw12.IrFuel'. -/
def irFuelCard : Claim7 := { stood := { row := irFuelRow, standIns := [], harness := (true, "e2c297bb2e09a7be2e623f4438930212384ed0b559e88b8f90a9ecc0c3512edc"), looks := true }, kinds := [], alts := [], laidByText := true, laidKinds := [.data], laidTests := true, laidLooks := .later }
def IrFuelCardSaid : Prop := Claim7.holds Tryz.pinned (.plain (OpenSpec.ofChange irFuelSpec)) irFuelCard

/-- THE SECOND FORM's CARD OF 'mootlaw12.IrCalls'. -/
def irCallsUptoCard : Claim7 := { stood := { row := irCallsUptoRow, standIns := [], harness := (true, "e2c297bb2e09a7be2e623f4438930212384ed0b559e88b8f90a9ecc0c3512edc"), looks := true }, kinds := [], alts := [], laidByText := true, laidKinds := [.data], laidTests := true, laidLooks := .later }
def IrCallsUptoCardSaid : Prop := Claim7.holds Tryz.pinned (.plain (OpenSpec.upto irCallsSpec)) irCallsUptoCard

/-- THE SECOND FORM's CARD OF 'mootlaw12.IrFuel'. -/
def irFuelUptoCard : Claim7 := { stood := { row := irFuelUptoRow, standIns := [], harness := (true, "e2c297bb2e09a7be2e623f4438930212384ed0b559e88b8f90a9ecc0c3512edc"), looks := true }, kinds := [], alts := [], laidByText := true, laidKinds := [.data], laidTests := true, laidLooks := .later }
def IrFuelUptoCardSaid : Prop := Claim7.holds Tryz.pinned (.plain (OpenSpec.upto irFuelSpec)) irFuelUptoCard
end Rows
end Go.Proofs.YtcgpdijpppcbiaaGreatDoor
