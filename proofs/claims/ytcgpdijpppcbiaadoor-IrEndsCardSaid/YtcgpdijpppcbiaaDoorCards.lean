/-
  DERIVED. GIVEN WITH THE SEED: THE CARDS: each row of YtcgpdijpppcbiaaDoorRows.lean that lists a variable, with what it lists TIED to the program's text (the seventh form; the later family's looks); each row that meets fmt, with fmt's text TOLD by the authors' own Lean function (tested against real Go, not proved from fmt's source: count such statements apart). THE CARD IS WHAT COUNTS. Prove the row's statement (the work); the ties are given (YtcgpdijpppcbiaaDoorTie.lean); close each card by the builder's one call (the guide's Derived/Test/ToyasCard.lean, 'card_holds'). Laid BY PROGRAM, IN A SANDBOX (cutbox-door.mjs). By AI agents, Wed Nov 11 2026. No macro, syntax, notation, axiom, sorry.
-/
import Derived.Test.YtcgpdijpppcbiaaDoorRows
import GoSem.ClaimSeven
namespace Go.Proofs.YtcgpdijpppcbiaaDoor
namespace Rows

/-- THE TIED CARD OF 'mootlaw12.IrLoops'. -/
def irLoopsCard : Claim7 := { stood := { row := irLoopsRow, standIns := [], harness := (true, "90f5904af4334b662a35127e6f0d28da26ac0e9f2d68dbc42d648a065f890e0f"), looks := true }, kinds := [], alts := [], laidByText := true, laidKinds := [.data], laidTests := true, laidLooks := .later }
def IrLoopsCardSaid : Prop := Claim7.holds Tryd.pinned (.plain (OpenSpec.ofChange irLoopsSpec)) irLoopsCard

/-- THE TIED CARD OF 'mootlaw12.IrEnds'. -/
def irEndsCard : Claim7 := { stood := { row := irEndsRow, standIns := [], harness := (true, "90f5904af4334b662a35127e6f0d28da26ac0e9f2d68dbc42d648a065f890e0f"), looks := true }, kinds := [], alts := [], laidByText := true, laidKinds := [.data], laidTests := true, laidLooks := .later }
def IrEndsCardSaid : Prop := Claim7.holds Tryd.pinned (.plain (OpenSpec.ofChange irEndsSpec)) irEndsCard

/-- THE TIED CARD OF 'mootlaw12.IrTooMuch'. -/
def irTooMuchCard : Claim7 := { stood := { row := irTooMuchRow, standIns := [], harness := (true, "90f5904af4334b662a35127e6f0d28da26ac0e9f2d68dbc42d648a065f890e0f"), looks := true }, kinds := [], alts := [], laidByText := true, laidKinds := [.data], laidTests := true, laidLooks := .later }
def IrTooMuchCardSaid : Prop := Claim7.holds Tryd.pinned (.plain (OpenSpec.ofChange irTooMuchSpec)) irTooMuchCard

/-- THE SECOND FORM's CARD OF 'mootlaw12.IrLoops'. -/
def irLoopsUptoCard : Claim7 := { stood := { row := irLoopsUptoRow, standIns := [], harness := (true, "90f5904af4334b662a35127e6f0d28da26ac0e9f2d68dbc42d648a065f890e0f"), looks := true }, kinds := [], alts := [], laidByText := true, laidKinds := [.data], laidTests := true, laidLooks := .later }
def IrLoopsUptoCardSaid : Prop := Claim7.holds Tryd.pinned (.plain (OpenSpec.upto irLoopsSpec)) irLoopsUptoCard

/-- THE SECOND FORM's CARD OF 'mootlaw12.IrEnds'. -/
def irEndsUptoCard : Claim7 := { stood := { row := irEndsUptoRow, standIns := [], harness := (true, "90f5904af4334b662a35127e6f0d28da26ac0e9f2d68dbc42d648a065f890e0f"), looks := true }, kinds := [], alts := [], laidByText := true, laidKinds := [.data], laidTests := true, laidLooks := .later }
def IrEndsUptoCardSaid : Prop := Claim7.holds Tryd.pinned (.plain (OpenSpec.upto irEndsSpec)) irEndsUptoCard

/-- THE SECOND FORM's CARD OF 'mootlaw12.IrTooMuch'. -/
def irTooMuchUptoCard : Claim7 := { stood := { row := irTooMuchUptoRow, standIns := [], harness := (true, "90f5904af4334b662a35127e6f0d28da26ac0e9f2d68dbc42d648a065f890e0f"), looks := true }, kinds := [], alts := [], laidByText := true, laidKinds := [.data], laidTests := true, laidLooks := .later }
def IrTooMuchUptoCardSaid : Prop := Claim7.holds Tryd.pinned (.plain (OpenSpec.upto irTooMuchSpec)) irTooMuchUptoCard
end Rows
end Go.Proofs.YtcgpdijpppcbiaaDoor
