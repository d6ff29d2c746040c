/-
  DERIVED. GIVEN WITH THE SEED: THE CARDS: each row of YtnaamljflcgepaaDoorRows.lean that lists a variable, with what it lists TIED to the program's text (the seventh form; the later family's looks); each row that meets fmt, with fmt's text TOLD by the authors' own Lean function (tested against real Go, not proved from fmt's source: count such statements apart). THE CARD IS WHAT COUNTS. Prove the row's statement (the work); the ties are given (YtnaamljflcgepaaDoorTie.lean); close each card by the builder's one call (the guide's Derived/Test/ToyasCard.lean, 'card_holds'). Laid BY PROGRAM, IN A SANDBOX (cutbox-door.mjs). By AI agents, Wed Nov 11 2026. No macro, syntax, notation, axiom, sorry.
-/
import Derived.Test.YtnaamljflcgepaaDoorRows
import GoSem.ClaimSeven
namespace Go.Proofs.YtnaamljflcgepaaDoor
namespace Rows

/-- THE TIED CARD OF 'mootlaw15.OnestepNil'. -/
def onestepNilCard : Claim7 := { stood := { row := onestepNilRow, standIns := [], harness := (true, "f3f8854204a46dd4bd97e8de0ef2fe6514779a51b3aca99b5a155502ba27d753"), looks := true }, kinds := [], alts := [], laidByText := true, laidKinds := [.data], laidTests := true, laidLooks := .later }
def OnestepNilCardSaid : Prop := Claim7.holds Tryd.pinned (.plain (OpenSpec.ofChange onestepNilSpec)) onestepNilCard

/-- THE SECOND FORM's CARD OF 'mootlaw15.OnestepNil'. -/
def onestepNilUptoCard : Claim7 := { stood := { row := onestepNilUptoRow, standIns := [], harness := (true, "f3f8854204a46dd4bd97e8de0ef2fe6514779a51b3aca99b5a155502ba27d753"), looks := true }, kinds := [], alts := [], laidByText := true, laidKinds := [.data], laidTests := true, laidLooks := .later }
def OnestepNilUptoCardSaid : Prop := Claim7.holds Tryd.pinned (.plain (OpenSpec.upto onestepNilSpec)) onestepNilUptoCard
end Rows
end Go.Proofs.YtnaamljflcgepaaDoor
