/-
  DERIVED. GIVEN WITH THE SEED: THE CARDS: each row of YthlmjcochpodgaaDoorRows.lean that lists a variable, with what it lists TIED to the program's text (the seventh form; the later family's looks); each row that meets fmt, with fmt's text TOLD by the authors' own Lean function (tested against real Go, not proved from fmt's source: count such statements apart). THE CARD IS WHAT COUNTS. Prove the row's statement (the work); the ties are given (YthlmjcochpodgaaDoorTie.lean); close each card by the builder's one call (the guide's Derived/Test/ToyasCard.lean, 'card_holds'). Laid BY PROGRAM, IN A SANDBOX (cutbox-door.mjs). By AI agents, Wed Nov 11 2026. No macro, syntax, notation, axiom, sorry.
-/
import Derived.Test.YthlmjcochpodgaaDoorRows
import GoSem.ClaimSeven
namespace Go.Proofs.YthlmjcochpodgaaDoor
namespace Rows

/-- THE TIED CARD OF 'mootlaw03.RlpKnown'. -/
def rlpKnownCard : Claim7 := { stood := { row := rlpKnownRow, standIns := [], harness := (true, "58e0c92e262fa11ea8aa684fd83c0baffa49e929a0860fbdc01fbba69ea75e10"), looks := true }, kinds := [], alts := [], laidByText := true, laidKinds := [.handle], laidTests := true, laidLooks := .later }
def RlpKnownCardSaid : Prop := Claim7.holds Tryd.pinned (.plain (OpenSpec.ofChange rlpKnownSpec)) rlpKnownCard

/-- THE TIED CARD OF 'mootlaw03.RlpCuts'. -/
def rlpCutsCard : Claim7 := { stood := { row := rlpCutsRow, standIns := [], harness := (true, "58e0c92e262fa11ea8aa684fd83c0baffa49e929a0860fbdc01fbba69ea75e10"), looks := true }, kinds := [], alts := [], laidByText := true, laidKinds := [.handle], laidTests := true, laidLooks := .later }
def RlpCutsCardSaid : Prop := Claim7.holds Tryd.pinned (.plain (OpenSpec.ofChange rlpCutsSpec)) rlpCutsCard

/-- THE TIED CARD OF 'mootlaw03.RlpLists'. -/
def rlpListsCard : Claim7 := { stood := { row := rlpListsRow, standIns := [], harness := (true, "58e0c92e262fa11ea8aa684fd83c0baffa49e929a0860fbdc01fbba69ea75e10"), looks := true }, kinds := [], alts := [], laidByText := true, laidKinds := [.handle], laidTests := true, laidLooks := .later }
def RlpListsCardSaid : Prop := Claim7.holds Tryd.pinned (.plain (OpenSpec.ofChange rlpListsSpec)) rlpListsCard

/-- THE TIED CARD OF 'mootlaw03.RlpApart'. -/
def rlpApartCard : Claim7 := { stood := { row := rlpApartRow, standIns := [], harness := (true, "58e0c92e262fa11ea8aa684fd83c0baffa49e929a0860fbdc01fbba69ea75e10"), looks := true }, kinds := [], alts := [], laidByText := true, laidKinds := [.handle], laidTests := true, laidLooks := .later }
def RlpApartCardSaid : Prop := Claim7.holds Tryd.pinned (.plain (OpenSpec.ofChange rlpApartSpec)) rlpApartCard

/-- THE TIED CARD OF 'mootlaw03.RlpEncodes'. -/
def rlpEncodesCard : Claim7 := { stood := { row := rlpEncodesRow, standIns := [], harness := (true, "58e0c92e262fa11ea8aa684fd83c0baffa49e929a0860fbdc01fbba69ea75e10"), looks := true }, kinds := [], alts := [], laidByText := true, laidKinds := [.handle], laidTests := true, laidLooks := .later }
def RlpEncodesCardSaid : Prop := Claim7.holds Tryd.pinned (.plain (OpenSpec.ofChange rlpEncodesSpec)) rlpEncodesCard

/-- THE TIED CARD OF 'mootlaw03.RlpDecodes'. -/
def rlpDecodesCard : Claim7 := { stood := { row := rlpDecodesRow, standIns := [], harness := (true, "58e0c92e262fa11ea8aa684fd83c0baffa49e929a0860fbdc01fbba69ea75e10"), looks := true }, kinds := [], alts := [], laidByText := true, laidKinds := [.handle], laidTests := true, laidLooks := .later }
def RlpDecodesCardSaid : Prop := Claim7.holds Tryd.pinned (.plain (OpenSpec.ofChange rlpDecodesSpec)) rlpDecodesCard

/-- THE TIED CARD OF 'mootlaw03.RlpBack'. -/
def rlpBackCard : Claim7 := { stood := { row := rlpBackRow, standIns := [], harness := (true, "58e0c92e262fa11ea8aa684fd83c0baffa49e929a0860fbdc01fbba69ea75e10"), looks := true }, kinds := [], alts := [], laidByText := true, laidKinds := [.handle], laidTests := true, laidLooks := .later }
def RlpBackCardSaid : Prop := Claim7.holds Tryd.pinned (.plain (OpenSpec.ofChange rlpBackSpec)) rlpBackCard

/-- THE TIED CARD OF 'mootlaw03.RlpNumbers'. -/
def rlpNumbersCard : Claim7 := { stood := { row := rlpNumbersRow, standIns := [], harness := (true, "58e0c92e262fa11ea8aa684fd83c0baffa49e929a0860fbdc01fbba69ea75e10"), looks := true }, kinds := [], alts := [], laidByText := true, laidKinds := [.handle], laidTests := true, laidLooks := .later }
def RlpNumbersCardSaid : Prop := Claim7.holds Tryd.pinned (.plain (OpenSpec.ofChange rlpNumbersSpec)) rlpNumbersCard

/-- THE SECOND FORM's CARD OF 'mootlaw03.RlpKnown'. -/
def rlpKnownUptoCard : Claim7 := { stood := { row := rlpKnownUptoRow, standIns := [], harness := (true, "58e0c92e262fa11ea8aa684fd83c0baffa49e929a0860fbdc01fbba69ea75e10"), looks := true }, kinds := [], alts := [], laidByText := true, laidKinds := [.handle], laidTests := true, laidLooks := .later }
def RlpKnownUptoCardSaid : Prop := Claim7.holds Tryd.pinned (.plain (OpenSpec.upto rlpKnownSpec)) rlpKnownUptoCard

/-- THE SECOND FORM's CARD OF 'mootlaw03.RlpCuts'. -/
def rlpCutsUptoCard : Claim7 := { stood := { row := rlpCutsUptoRow, standIns := [], harness := (true, "58e0c92e262fa11ea8aa684fd83c0baffa49e929a0860fbdc01fbba69ea75e10"), looks := true }, kinds := [], alts := [], laidByText := true, laidKinds := [.handle], laidTests := true, laidLooks := .later }
def RlpCutsUptoCardSaid : Prop := Claim7.holds Tryd.pinned (.plain (OpenSpec.upto rlpCutsSpec)) rlpCutsUptoCard

/-- THE SECOND FORM's CARD OF 'mootlaw03.RlpLists'. -/
def rlpListsUptoCard : Claim7 := { stood := { row := rlpListsUptoRow, standIns := [], harness := (true, "58e0c92e262fa11ea8aa684fd83c0baffa49e929a0860fbdc01fbba69ea75e10"), looks := true }, kinds := [], alts := [], laidByText := true, laidKinds := [.handle], laidTests := true, laidLooks := .later }
def RlpListsUptoCardSaid : Prop := Claim7.holds Tryd.pinned (.plain (OpenSpec.upto rlpListsSpec)) rlpListsUptoCard

/-- THE SECOND FORM's CARD OF 'mootlaw03.RlpApart'. -/
def rlpApartUptoCard : Claim7 := { stood := { row := rlpApartUptoRow, standIns := [], harness := (true, "58e0c92e262fa11ea8aa684fd83c0baffa49e929a0860fbdc01fbba69ea75e10"), looks := true }, kinds := [], alts := [], laidByText := true, laidKinds := [.handle], laidTests := true, laidLooks := .later }
def RlpApartUptoCardSaid : Prop := Claim7.holds Tryd.pinned (.plain (OpenSpec.upto rlpApartSpec)) rlpApartUptoCard

/-- THE SECOND FORM's CARD OF 'mootlaw03.RlpEncodes'. -/
def rlpEncodesUptoCard : Claim7 := { stood := { row := rlpEncodesUptoRow, standIns := [], harness := (true, "58e0c92e262fa11ea8aa684fd83c0baffa49e929a0860fbdc01fbba69ea75e10"), looks := true }, kinds := [], alts := [], laidByText := true, laidKinds := [.handle], laidTests := true, laidLooks := .later }
def RlpEncodesUptoCardSaid : Prop := Claim7.holds Tryd.pinned (.plain (OpenSpec.upto rlpEncodesSpec)) rlpEncodesUptoCard

/-- THE SECOND FORM's CARD OF 'mootlaw03.RlpDecodes'. -/
def rlpDecodesUptoCard : Claim7 := { stood := { row := rlpDecodesUptoRow, standIns := [], harness := (true, "58e0c92e262fa11ea8aa684fd83c0baffa49e929a0860fbdc01fbba69ea75e10"), looks := true }, kinds := [], alts := [], laidByText := true, laidKinds := [.handle], laidTests := true, laidLooks := .later }
def RlpDecodesUptoCardSaid : Prop := Claim7.holds Tryd.pinned (.plain (OpenSpec.upto rlpDecodesSpec)) rlpDecodesUptoCard

/-- THE SECOND FORM's CARD OF 'mootlaw03.RlpBack'. -/
def rlpBackUptoCard : Claim7 := { stood := { row := rlpBackUptoRow, standIns := [], harness := (true, "58e0c92e262fa11ea8aa684fd83c0baffa49e929a0860fbdc01fbba69ea75e10"), looks := true }, kinds := [], alts := [], laidByText := true, laidKinds := [.handle], laidTests := true, laidLooks := .later }
def RlpBackUptoCardSaid : Prop := Claim7.holds Tryd.pinned (.plain (OpenSpec.upto rlpBackSpec)) rlpBackUptoCard

/-- THE SECOND FORM's CARD OF 'mootlaw03.RlpNumbers'. -/
def rlpNumbersUptoCard : Claim7 := { stood := { row := rlpNumbersUptoRow, standIns := [], harness := (true, "58e0c92e262fa11ea8aa684fd83c0baffa49e929a0860fbdc01fbba69ea75e10"), looks := true }, kinds := [], alts := [], laidByText := true, laidKinds := [.handle], laidTests := true, laidLooks := .later }
def RlpNumbersUptoCardSaid : Prop := Claim7.holds Tryd.pinned (.plain (OpenSpec.upto rlpNumbersSpec)) rlpNumbersUptoCard
end Rows
end Go.Proofs.YthlmjcochpodgaaDoor
