/-
  DERIVED. GIVEN WITH THE SEED: THE CARDS: each row of YtlbbnflchkejgaaDoorRows.lean that lists a variable, with what it lists TIED to the program's text (the seventh form; the later family's looks); each row that meets fmt, with fmt's text TOLD by the authors' own Lean function (tested against real Go, not proved from fmt's source: count such statements apart). THE CARD IS WHAT COUNTS. Prove the row's statement (the work); the ties are given (YtlbbnflchkejgaaDoorTie.lean); close each card by the builder's one call (the guide's Derived/Test/ToyasCard.lean, 'card_holds'). Laid BY PROGRAM, IN A SANDBOX (cutbox-door.mjs). By AI agents, Wed Nov 11 2026. No macro, syntax, notation, axiom, sorry.
-/
import Derived.Test.YtlbbnflchkejgaaDoorRows
import GoSem.ClaimSeven
namespace Go.Proofs.YtlbbnflchkejgaaDoor
namespace Rows

/-- THE TIED CARD OF 'mootlaw16.PositionKnown'. -/
def positionKnownCard : Claim7 := { stood := { row := positionKnownRow, standIns := [], harness := (true, "e818fe92ace2d2e38eb72d4fae0ba34632473a3d84caced145a8e5150accda1a"), looks := true }, kinds := [], alts := [], laidByText := true, laidKinds := [.data], laidTests := true, laidLooks := .later }
def PositionKnownCardSaid : Prop := Claim7.holds Tryd.pinned (.plain (OpenSpec.ofChange positionKnownSpec)) positionKnownCard

/-- THE TIED CARD OF 'mootlaw16.PositionOrder'. -/
def positionOrderCard : Claim7 := { stood := { row := positionOrderRow, standIns := [], harness := (true, "e818fe92ace2d2e38eb72d4fae0ba34632473a3d84caced145a8e5150accda1a"), looks := true }, kinds := [], alts := [], laidByText := true, laidKinds := [.data], laidTests := true, laidLooks := .later }
def PositionOrderCardSaid : Prop := Claim7.holds Tryd.pinned (.plain (OpenSpec.ofChange positionOrderSpec)) positionOrderCard

/-- THE TIED CARD OF 'mootlaw16.PositionCalls'. -/
def positionCallsCard : Claim7 := { stood := { row := positionCallsRow, standIns := [], harness := (true, "e818fe92ace2d2e38eb72d4fae0ba34632473a3d84caced145a8e5150accda1a"), looks := true }, kinds := [], alts := [], laidByText := true, laidKinds := [.data, .handle], laidTests := true, laidLooks := .later }
def PositionCallsCardSaid : Prop := Claim7.holds Tryd.pinned (.plain (OpenSpec.ofChange positionCallsSpec)) positionCallsCard

/-- THE TIED CARD OF 'mootlaw16.PositionMoves'. -/
def positionMovesCard : Claim7 := { stood := { row := positionMovesRow, standIns := [], harness := (true, "e818fe92ace2d2e38eb72d4fae0ba34632473a3d84caced145a8e5150accda1a"), looks := true }, kinds := [], alts := [], laidByText := true, laidKinds := [.data], laidTests := true, laidLooks := .later }
def PositionMovesCardSaid : Prop := Claim7.holds Tryd.pinned (.plain (OpenSpec.ofChange positionMovesSpec)) positionMovesCard

/-- THE SECOND FORM's CARD OF 'mootlaw16.PositionKnown'. -/
def positionKnownUptoCard : Claim7 := { stood := { row := positionKnownUptoRow, standIns := [], harness := (true, "e818fe92ace2d2e38eb72d4fae0ba34632473a3d84caced145a8e5150accda1a"), looks := true }, kinds := [], alts := [], laidByText := true, laidKinds := [.data], laidTests := true, laidLooks := .later }
def PositionKnownUptoCardSaid : Prop := Claim7.holds Tryd.pinned (.plain (OpenSpec.upto positionKnownSpec)) positionKnownUptoCard

/-- THE SECOND FORM's CARD OF 'mootlaw16.PositionOrder'. -/
def positionOrderUptoCard : Claim7 := { stood := { row := positionOrderUptoRow, standIns := [], harness := (true, "e818fe92ace2d2e38eb72d4fae0ba34632473a3d84caced145a8e5150accda1a"), looks := true }, kinds := [], alts := [], laidByText := true, laidKinds := [.data], laidTests := true, laidLooks := .later }
def PositionOrderUptoCardSaid : Prop := Claim7.holds Tryd.pinned (.plain (OpenSpec.upto positionOrderSpec)) positionOrderUptoCard

/-- THE SECOND FORM's CARD OF 'mootlaw16.PositionCalls'. -/
def positionCallsUptoCard : Claim7 := { stood := { row := positionCallsUptoRow, standIns := [], harness := (true, "e818fe92ace2d2e38eb72d4fae0ba34632473a3d84caced145a8e5150accda1a"), looks := true }, kinds := [], alts := [], laidByText := true, laidKinds := [.data, .handle], laidTests := true, laidLooks := .later }
def PositionCallsUptoCardSaid : Prop := Claim7.holds Tryd.pinned (.plain (OpenSpec.upto positionCallsSpec)) positionCallsUptoCard

/-- THE SECOND FORM's CARD OF 'mootlaw16.PositionMoves'. -/
def positionMovesUptoCard : Claim7 := { stood := { row := positionMovesUptoRow, standIns := [], harness := (true, "e818fe92ace2d2e38eb72d4fae0ba34632473a3d84caced145a8e5150accda1a"), looks := true }, kinds := [], alts := [], laidByText := true, laidKinds := [.data], laidTests := true, laidLooks := .later }
def PositionMovesUptoCardSaid : Prop := Claim7.holds Tryd.pinned (.plain (OpenSpec.upto positionMovesSpec)) positionMovesUptoCard
end Rows
end Go.Proofs.YtlbbnflchkejgaaDoor
