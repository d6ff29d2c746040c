/-
  DERIVED. GIVEN WITH THE SEED: THE CARDS: each row of YtkhdamjjbjmeaaaDoorRows.lean that lists a variable, with what it lists TIED to the program's text (the seventh form; the later family's looks); each row that meets fmt, with fmt's text TOLD by the authors' own Lean function (tested against real Go, not proved from fmt's source: count such statements apart). THE CARD IS WHAT COUNTS. Prove the row's statement (the work); the ties are given (YtkhdamjjbjmeaaaDoorTie.lean); close each card by the builder's one call (the guide's Derived/Test/ToyasCard.lean, 'card_holds'). Laid BY PROGRAM, IN A SANDBOX (cutbox-door.mjs). By AI agents, Wed Nov 11 2026. No macro, syntax, notation, axiom, sorry.
-/
import Derived.Test.YtkhdamjjbjmeaaaDoorRows
import GoSem.ClaimSeven
namespace Go.Proofs.YtkhdamjjbjmeaaaDoor
namespace Rows

/-- THE TIED CARD OF 'mootlaw04.TxHalves'. -/
def txHalvesCard : Claim7 := { stood := { row := txHalvesRow, standIns := [], harness := (true, "96ba0ef1aedf356da927d5282d9ed18e10001fe41982168c8775e961bdc21a71"), looks := true }, kinds := [], alts := [], laidByText := true, laidKinds := [.data], laidTests := true, laidLooks := .later }
def TxHalvesCardSaid : Prop := Claim7.holds Tryd.pinned (.plain (OpenSpec.ofChange txHalvesSpec)) txHalvesCard

/-- THE TIED CARD OF 'mootlaw04.TxCodes'. -/
def txCodesCard : Claim7 := { stood := { row := txCodesRow, standIns := [], harness := (true, "96ba0ef1aedf356da927d5282d9ed18e10001fe41982168c8775e961bdc21a71"), looks := true }, kinds := [], alts := [], laidByText := true, laidKinds := [.handle], laidTests := true, laidLooks := .later }
def TxCodesCardSaid : Prop := Claim7.holds Tryd.pinned (.plain (OpenSpec.ofChange txCodesSpec)) txCodesCard

/-- THE TIED CARD OF 'mootlaw04.TxBatches'. -/
def txBatchesCard : Claim7 := { stood := { row := txBatchesRow, standIns := [], harness := (true, "96ba0ef1aedf356da927d5282d9ed18e10001fe41982168c8775e961bdc21a71"), looks := true }, kinds := [], alts := [], laidByText := true, laidKinds := [.handle], laidTests := true, laidLooks := .later }
def TxBatchesCardSaid : Prop := Claim7.holds Tryd.pinned (.plain (OpenSpec.ofChange txBatchesSpec)) txBatchesCard

/-- THE TIED CARD OF 'mootlaw04.TxCommits'. -/
def txCommitsCard : Claim7 := { stood := { row := txCommitsRow, standIns := [], harness := (true, "96ba0ef1aedf356da927d5282d9ed18e10001fe41982168c8775e961bdc21a71"), looks := true }, kinds := [], alts := [], laidByText := true, laidKinds := [.handle, .data], laidTests := true, laidLooks := .later }
def TxCommitsCardSaid : Prop := Claim7.holds Tryd.pinned (.plain (OpenSpec.ofChange txCommitsSpec)) txCommitsCard

/-- THE SECOND FORM's CARD OF 'mootlaw04.TxHalves'. -/
def txHalvesUptoCard : Claim7 := { stood := { row := txHalvesUptoRow, standIns := [], harness := (true, "96ba0ef1aedf356da927d5282d9ed18e10001fe41982168c8775e961bdc21a71"), looks := true }, kinds := [], alts := [], laidByText := true, laidKinds := [.data], laidTests := true, laidLooks := .later }
def TxHalvesUptoCardSaid : Prop := Claim7.holds Tryd.pinned (.plain (OpenSpec.upto txHalvesSpec)) txHalvesUptoCard

/-- THE SECOND FORM's CARD OF 'mootlaw04.TxCodes'. -/
def txCodesUptoCard : Claim7 := { stood := { row := txCodesUptoRow, standIns := [], harness := (true, "96ba0ef1aedf356da927d5282d9ed18e10001fe41982168c8775e961bdc21a71"), looks := true }, kinds := [], alts := [], laidByText := true, laidKinds := [.handle], laidTests := true, laidLooks := .later }
def TxCodesUptoCardSaid : Prop := Claim7.holds Tryd.pinned (.plain (OpenSpec.upto txCodesSpec)) txCodesUptoCard

/-- THE SECOND FORM's CARD OF 'mootlaw04.TxBatches'. -/
def txBatchesUptoCard : Claim7 := { stood := { row := txBatchesUptoRow, standIns := [], harness := (true, "96ba0ef1aedf356da927d5282d9ed18e10001fe41982168c8775e961bdc21a71"), looks := true }, kinds := [], alts := [], laidByText := true, laidKinds := [.handle], laidTests := true, laidLooks := .later }
def TxBatchesUptoCardSaid : Prop := Claim7.holds Tryd.pinned (.plain (OpenSpec.upto txBatchesSpec)) txBatchesUptoCard

/-- THE SECOND FORM's CARD OF 'mootlaw04.TxCommits'. -/
def txCommitsUptoCard : Claim7 := { stood := { row := txCommitsUptoRow, standIns := [], harness := (true, "96ba0ef1aedf356da927d5282d9ed18e10001fe41982168c8775e961bdc21a71"), looks := true }, kinds := [], alts := [], laidByText := true, laidKinds := [.handle, .data], laidTests := true, laidLooks := .later }
def TxCommitsUptoCardSaid : Prop := Claim7.holds Tryd.pinned (.plain (OpenSpec.upto txCommitsSpec)) txCommitsUptoCard
end Rows
end Go.Proofs.YtkhdamjjbjmeaaaDoor
