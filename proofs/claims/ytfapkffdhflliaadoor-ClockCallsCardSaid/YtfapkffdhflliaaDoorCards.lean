/-
  DERIVED. GIVEN WITH THE SEED: THE CARDS: each row of YtfapkffdhflliaaDoorRows.lean that lists a variable, with what it lists TIED to the program's text (the seventh form; the later family's looks); each row that meets fmt, with fmt's text TOLD by the authors' own Lean function (tested against real Go, not proved from fmt's source: count such statements apart). THE CARD IS WHAT COUNTS. Prove the row's statement (the work); the ties are given (YtfapkffdhflliaaDoorTie.lean); close each card by the builder's one call (the guide's Derived/Test/ToyasCard.lean, 'card_holds'). Laid BY PROGRAM, IN A SANDBOX (cutbox-door.mjs). By AI agents, Wed Nov 11 2026. No macro, syntax, notation, axiom, sorry.
-/
import Derived.Test.YtfapkffdhflliaaDoorRows
import GoSem.ClaimSeven
namespace Go.Proofs.YtfapkffdhflliaaDoor
namespace Rows

/-- THE TIED CARD OF 'mootlaw17.ClockCalls'. -/
def clockCallsCard : Claim7 := { stood := { row := clockCallsRow, standIns := [], harness := (true, "95b58fbbc433c997006fcd24997b1df814875dccb0cf71a693d51ac0b1c11283"), looks := true }, kinds := [], alts := [], laidByText := true, laidKinds := [.handle], laidTests := true, laidLooks := .later }
def ClockCallsCardSaid : Prop := Claim7.holds Tryd.pinned (.plain (OpenSpec.ofChange clockCallsSpec)) clockCallsCard

/-- THE SECOND FORM's CARD OF 'mootlaw17.ClockCalls'. -/
def clockCallsUptoCard : Claim7 := { stood := { row := clockCallsUptoRow, standIns := [], harness := (true, "95b58fbbc433c997006fcd24997b1df814875dccb0cf71a693d51ac0b1c11283"), looks := true }, kinds := [], alts := [], laidByText := true, laidKinds := [.handle], laidTests := true, laidLooks := .later }
def ClockCallsUptoCardSaid : Prop := Claim7.holds Tryd.pinned (.plain (OpenSpec.upto clockCallsSpec)) clockCallsUptoCard
end Rows
end Go.Proofs.YtfapkffdhflliaaDoor
