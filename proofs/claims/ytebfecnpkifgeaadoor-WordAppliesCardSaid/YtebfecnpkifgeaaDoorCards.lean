/-
  DERIVED. GIVEN WITH THE SEED: THE CARDS: each row of YtebfecnpkifgeaaDoorRows.lean that lists a variable, with what it lists TIED to the program's text (the seventh form; the later family's looks); each row that meets fmt, with fmt's text TOLD by the authors' own Lean function (tested against real Go, not proved from fmt's source: count such statements apart). THE CARD IS WHAT COUNTS. Prove the row's statement (the work); the ties are given (YtebfecnpkifgeaaDoorTie.lean); close each card by the builder's one call (the guide's Derived/Test/ToyasCard.lean, 'card_holds'). Laid BY PROGRAM, IN A SANDBOX (cutbox-door.mjs). By AI agents, Wed Nov 11 2026. No macro, syntax, notation, axiom, sorry.
-/
import Derived.Test.YtebfecnpkifgeaaDoorRows
import GoSem.ClaimSeven
namespace Go.Proofs.YtebfecnpkifgeaaDoor
namespace Rows

/-- THE TIED CARD OF 'mootlaw01.WordNames'. -/
def wordNamesCard : Claim7 := { stood := { row := wordNamesRow, standIns := [], harness := (true, "73cdfc44541a48e24c9c6c1cd37901bcfb7311cc54c8238e786be33a7e5d245d"), looks := true }, kinds := [], alts := [], laidByText := true, laidKinds := [.data, .data, .data], laidTests := true, laidLooks := .later }
def WordNamesCardSaid : Prop := Claim7.holds Tryd.pinned (.plain (OpenSpec.ofChange wordNamesSpec)) wordNamesCard

/-- THE TIED CARD OF 'mootlaw01.WordApplies'. -/
def wordAppliesCard : Claim7 := { stood := { row := wordAppliesRow, standIns := [], harness := (true, "73cdfc44541a48e24c9c6c1cd37901bcfb7311cc54c8238e786be33a7e5d245d"), looks := true }, kinds := [], alts := [], laidByText := true, laidKinds := [.handle], laidTests := true, laidLooks := .later }
def WordAppliesCardSaid : Prop := Claim7.holds Tryd.pinned (.plain (OpenSpec.ofChange wordAppliesSpec)) wordAppliesCard

/-- THE TIED CARD OF 'mootlaw01.WordWide'. -/
def wordWideCard : Claim7 := { stood := { row := wordWideRow, standIns := [], harness := (true, "73cdfc44541a48e24c9c6c1cd37901bcfb7311cc54c8238e786be33a7e5d245d"), looks := true }, kinds := [], alts := [], laidByText := true, laidKinds := [.handle], laidTests := true, laidLooks := .later }
def WordWideCardSaid : Prop := Claim7.holds Tryd.pinned (.plain (OpenSpec.ofChange wordWideSpec)) wordWideCard

/-- THE SECOND FORM's CARD OF 'mootlaw01.WordNames'. -/
def wordNamesUptoCard : Claim7 := { stood := { row := wordNamesUptoRow, standIns := [], harness := (true, "73cdfc44541a48e24c9c6c1cd37901bcfb7311cc54c8238e786be33a7e5d245d"), looks := true }, kinds := [], alts := [], laidByText := true, laidKinds := [.data, .data, .data], laidTests := true, laidLooks := .later }
def WordNamesUptoCardSaid : Prop := Claim7.holds Tryd.pinned (.plain (OpenSpec.upto wordNamesSpec)) wordNamesUptoCard

/-- THE SECOND FORM's CARD OF 'mootlaw01.WordApplies'. -/
def wordAppliesUptoCard : Claim7 := { stood := { row := wordAppliesUptoRow, standIns := [], harness := (true, "73cdfc44541a48e24c9c6c1cd37901bcfb7311cc54c8238e786be33a7e5d245d"), looks := true }, kinds := [], alts := [], laidByText := true, laidKinds := [.handle], laidTests := true, laidLooks := .later }
def WordAppliesUptoCardSaid : Prop := Claim7.holds Tryd.pinned (.plain (OpenSpec.upto wordAppliesSpec)) wordAppliesUptoCard

/-- THE SECOND FORM's CARD OF 'mootlaw01.WordWide'. -/
def wordWideUptoCard : Claim7 := { stood := { row := wordWideUptoRow, standIns := [], harness := (true, "73cdfc44541a48e24c9c6c1cd37901bcfb7311cc54c8238e786be33a7e5d245d"), looks := true }, kinds := [], alts := [], laidByText := true, laidKinds := [.handle], laidTests := true, laidLooks := .later }
def WordWideUptoCardSaid : Prop := Claim7.holds Tryd.pinned (.plain (OpenSpec.upto wordWideSpec)) wordWideUptoCard
end Rows
end Go.Proofs.YtebfecnpkifgeaaDoor
