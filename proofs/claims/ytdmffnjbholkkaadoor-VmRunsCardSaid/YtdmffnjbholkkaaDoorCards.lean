/-
  DERIVED. GIVEN WITH THE SEED: THE CARDS: each row of YtdmffnjbholkkaaDoorRows.lean that lists a variable, with what it lists TIED to the program's text (the seventh form; the later family's looks); each row that meets fmt, with fmt's text TOLD by the authors' own Lean function (tested against real Go, not proved from fmt's source: count such statements apart). THE CARD IS WHAT COUNTS. Prove the row's statement (the work); the ties are given (YtdmffnjbholkkaaDoorTie.lean); close each card by the builder's one call (the guide's Derived/Test/ToyasCard.lean, 'card_holds'). Laid BY PROGRAM, IN A SANDBOX (cutbox-door.mjs). By AI agents, Wed Nov 11 2026. No macro, syntax, notation, axiom, sorry.
-/
import Derived.Test.YtdmffnjbholkkaaDoorRows
import GoSem.ClaimSeven
namespace Go.Proofs.YtdmffnjbholkkaaDoor
namespace Rows

/-- THE TIED CARD OF 'mootlaw06.WitnessPlays'. -/
def witnessPlaysCard : Claim7 := { stood := { row := witnessPlaysRow, standIns := [], harness := (true, "2194b0eecbb242bdba0f5c71ea0189ea6e1ac61fdcf8150e72cccce2bbb72c1f"), looks := true }, kinds := [], alts := [], laidByText := true, laidKinds := [.handle, .data], laidTests := true, laidLooks := .later }
def WitnessPlaysCardSaid : Prop := Claim7.holds Tryd.pinned (.plain (OpenSpec.ofChange witnessPlaysSpec)) witnessPlaysCard

/-- THE TIED CARD OF 'mootlaw06.WitnessNil'. -/
def witnessNilCard : Claim7 := { stood := { row := witnessNilRow, standIns := [], harness := (true, "2194b0eecbb242bdba0f5c71ea0189ea6e1ac61fdcf8150e72cccce2bbb72c1f"), looks := true }, kinds := [], alts := [], laidByText := true, laidKinds := [.handle, .data], laidTests := true, laidLooks := .later }
def WitnessNilCardSaid : Prop := Claim7.holds Tryd.pinned (.plain (OpenSpec.ofChange witnessNilSpec)) witnessNilCard

/-- THE TIED CARD OF 'mootlaw06.WitnessTrees'. -/
def witnessTreesCard : Claim7 := { stood := { row := witnessTreesRow, standIns := [], harness := (true, "2194b0eecbb242bdba0f5c71ea0189ea6e1ac61fdcf8150e72cccce2bbb72c1f"), looks := true }, kinds := [], alts := [], laidByText := true, laidKinds := [.handle, .data], laidTests := true, laidLooks := .later }
def WitnessTreesCardSaid : Prop := Claim7.holds Tryd.pinned (.plain (OpenSpec.ofChange witnessTreesSpec)) witnessTreesCard

/-- THE TIED CARD OF 'mootlaw06.WitnessEnough'. -/
def witnessEnoughCard : Claim7 := { stood := { row := witnessEnoughRow, standIns := [], harness := (true, "2194b0eecbb242bdba0f5c71ea0189ea6e1ac61fdcf8150e72cccce2bbb72c1f"), looks := true }, kinds := [], alts := [], laidByText := true, laidKinds := [.handle, .data], laidTests := true, laidLooks := .later }
def WitnessEnoughCardSaid : Prop := Claim7.holds Tryd.pinned (.plain (OpenSpec.ofChange witnessEnoughSpec)) witnessEnoughCard

/-- THE TIED CARD OF 'mootlaw06.WitnessApart'. -/
def witnessApartCard : Claim7 := { stood := { row := witnessApartRow, standIns := [], harness := (true, "2194b0eecbb242bdba0f5c71ea0189ea6e1ac61fdcf8150e72cccce2bbb72c1f"), looks := true }, kinds := [], alts := [], laidByText := true, laidKinds := [.handle, .data], laidTests := true, laidLooks := .later }
def WitnessApartCardSaid : Prop := Claim7.holds Tryd.pinned (.plain (OpenSpec.ofChange witnessApartSpec)) witnessApartCard

/-- THE TIED CARD OF 'mootlaw10.VmStores'. -/
def vmStoresCard : Claim7 := { stood := { row := vmStoresRow, standIns := [], harness := (true, "2194b0eecbb242bdba0f5c71ea0189ea6e1ac61fdcf8150e72cccce2bbb72c1f"), looks := true }, kinds := [], alts := [], laidByText := true, laidKinds := [.data], laidTests := true, laidLooks := .later }
def VmStoresCardSaid : Prop := Claim7.holds Tryd.pinned (.plain (OpenSpec.ofChange vmStoresSpec)) vmStoresCard

/-- THE TIED CARD OF 'mootlaw10.VmOracle'. -/
def vmOracleCard : Claim7 := { stood := { row := vmOracleRow, standIns := [], harness := (true, "2194b0eecbb242bdba0f5c71ea0189ea6e1ac61fdcf8150e72cccce2bbb72c1f"), looks := true }, kinds := [], alts := [], laidByText := true, laidKinds := [.data], laidTests := true, laidLooks := .later }
def VmOracleCardSaid : Prop := Claim7.holds Tryd.pinned (.plain (OpenSpec.ofChange vmOracleSpec)) vmOracleCard

/-- THE TIED CARD OF 'mootlaw10.VmJumps'. -/
def vmJumpsCard : Claim7 := { stood := { row := vmJumpsRow, standIns := [], harness := (true, "2194b0eecbb242bdba0f5c71ea0189ea6e1ac61fdcf8150e72cccce2bbb72c1f"), looks := true }, kinds := [], alts := [], laidByText := true, laidKinds := [.data], laidTests := true, laidLooks := .later }
def VmJumpsCardSaid : Prop := Claim7.holds Tryd.pinned (.plain (OpenSpec.ofChange vmJumpsSpec)) vmJumpsCard

/-- THE TIED CARD OF 'mootlaw10.VmRuns'. -/
def vmRunsCard : Claim7 := { stood := { row := vmRunsRow, standIns := [], harness := (true, "2194b0eecbb242bdba0f5c71ea0189ea6e1ac61fdcf8150e72cccce2bbb72c1f"), looks := true }, kinds := [], alts := [], laidByText := true, laidKinds := [.data], laidTests := true, laidLooks := .later }
def VmRunsCardSaid : Prop := Claim7.holds Tryd.pinned (.plain (OpenSpec.ofChange vmRunsSpec)) vmRunsCard

/-- THE TIED CARD OF 'mootlaw10.VmCodes'. -/
def vmCodesCard : Claim7 := { stood := { row := vmCodesRow, standIns := [], harness := (true, "2194b0eecbb242bdba0f5c71ea0189ea6e1ac61fdcf8150e72cccce2bbb72c1f"), looks := true }, kinds := [], alts := [], laidByText := true, laidKinds := [.handle, .data], laidTests := true, laidLooks := .later }
def VmCodesCardSaid : Prop := Claim7.holds Tryd.pinned (.plain (OpenSpec.ofChange vmCodesSpec)) vmCodesCard

/-- THE SECOND FORM's CARD OF 'mootlaw06.WitnessPlays'. -/
def witnessPlaysUptoCard : Claim7 := { stood := { row := witnessPlaysUptoRow, standIns := [], harness := (true, "2194b0eecbb242bdba0f5c71ea0189ea6e1ac61fdcf8150e72cccce2bbb72c1f"), looks := true }, kinds := [], alts := [], laidByText := true, laidKinds := [.handle, .data], laidTests := true, laidLooks := .later }
def WitnessPlaysUptoCardSaid : Prop := Claim7.holds Tryd.pinned (.plain (OpenSpec.upto witnessPlaysSpec)) witnessPlaysUptoCard

/-- THE SECOND FORM's CARD OF 'mootlaw06.WitnessNil'. -/
def witnessNilUptoCard : Claim7 := { stood := { row := witnessNilUptoRow, standIns := [], harness := (true, "2194b0eecbb242bdba0f5c71ea0189ea6e1ac61fdcf8150e72cccce2bbb72c1f"), looks := true }, kinds := [], alts := [], laidByText := true, laidKinds := [.handle, .data], laidTests := true, laidLooks := .later }
def WitnessNilUptoCardSaid : Prop := Claim7.holds Tryd.pinned (.plain (OpenSpec.upto witnessNilSpec)) witnessNilUptoCard

/-- THE SECOND FORM's CARD OF 'mootlaw06.WitnessTrees'. -/
def witnessTreesUptoCard : Claim7 := { stood := { row := witnessTreesUptoRow, standIns := [], harness := (true, "2194b0eecbb242bdba0f5c71ea0189ea6e1ac61fdcf8150e72cccce2bbb72c1f"), looks := true }, kinds := [], alts := [], laidByText := true, laidKinds := [.handle, .data], laidTests := true, laidLooks := .later }
def WitnessTreesUptoCardSaid : Prop := Claim7.holds Tryd.pinned (.plain (OpenSpec.upto witnessTreesSpec)) witnessTreesUptoCard

/-- THE SECOND FORM's CARD OF 'mootlaw06.WitnessEnough'. -/
def witnessEnoughUptoCard : Claim7 := { stood := { row := witnessEnoughUptoRow, standIns := [], harness := (true, "2194b0eecbb242bdba0f5c71ea0189ea6e1ac61fdcf8150e72cccce2bbb72c1f"), looks := true }, kinds := [], alts := [], laidByText := true, laidKinds := [.handle, .data], laidTests := true, laidLooks := .later }
def WitnessEnoughUptoCardSaid : Prop := Claim7.holds Tryd.pinned (.plain (OpenSpec.upto witnessEnoughSpec)) witnessEnoughUptoCard

/-- THE SECOND FORM's CARD OF 'mootlaw06.WitnessApart'. -/
def witnessApartUptoCard : Claim7 := { stood := { row := witnessApartUptoRow, standIns := [], harness := (true, "2194b0eecbb242bdba0f5c71ea0189ea6e1ac61fdcf8150e72cccce2bbb72c1f"), looks := true }, kinds := [], alts := [], laidByText := true, laidKinds := [.handle, .data], laidTests := true, laidLooks := .later }
def WitnessApartUptoCardSaid : Prop := Claim7.holds Tryd.pinned (.plain (OpenSpec.upto witnessApartSpec)) witnessApartUptoCard

/-- THE SECOND FORM's CARD OF 'mootlaw10.VmStores'. -/
def vmStoresUptoCard : Claim7 := { stood := { row := vmStoresUptoRow, standIns := [], harness := (true, "2194b0eecbb242bdba0f5c71ea0189ea6e1ac61fdcf8150e72cccce2bbb72c1f"), looks := true }, kinds := [], alts := [], laidByText := true, laidKinds := [.data], laidTests := true, laidLooks := .later }
def VmStoresUptoCardSaid : Prop := Claim7.holds Tryd.pinned (.plain (OpenSpec.upto vmStoresSpec)) vmStoresUptoCard

/-- THE SECOND FORM's CARD OF 'mootlaw10.VmOracle'. -/
def vmOracleUptoCard : Claim7 := { stood := { row := vmOracleUptoRow, standIns := [], harness := (true, "2194b0eecbb242bdba0f5c71ea0189ea6e1ac61fdcf8150e72cccce2bbb72c1f"), looks := true }, kinds := [], alts := [], laidByText := true, laidKinds := [.data], laidTests := true, laidLooks := .later }
def VmOracleUptoCardSaid : Prop := Claim7.holds Tryd.pinned (.plain (OpenSpec.upto vmOracleSpec)) vmOracleUptoCard

/-- THE SECOND FORM's CARD OF 'mootlaw10.VmJumps'. -/
def vmJumpsUptoCard : Claim7 := { stood := { row := vmJumpsUptoRow, standIns := [], harness := (true, "2194b0eecbb242bdba0f5c71ea0189ea6e1ac61fdcf8150e72cccce2bbb72c1f"), looks := true }, kinds := [], alts := [], laidByText := true, laidKinds := [.data], laidTests := true, laidLooks := .later }
def VmJumpsUptoCardSaid : Prop := Claim7.holds Tryd.pinned (.plain (OpenSpec.upto vmJumpsSpec)) vmJumpsUptoCard

/-- THE SECOND FORM's CARD OF 'mootlaw10.VmRuns'. -/
def vmRunsUptoCard : Claim7 := { stood := { row := vmRunsUptoRow, standIns := [], harness := (true, "2194b0eecbb242bdba0f5c71ea0189ea6e1ac61fdcf8150e72cccce2bbb72c1f"), looks := true }, kinds := [], alts := [], laidByText := true, laidKinds := [.data], laidTests := true, laidLooks := .later }
def VmRunsUptoCardSaid : Prop := Claim7.holds Tryd.pinned (.plain (OpenSpec.upto vmRunsSpec)) vmRunsUptoCard

/-- THE SECOND FORM's CARD OF 'mootlaw10.VmCodes'. -/
def vmCodesUptoCard : Claim7 := { stood := { row := vmCodesUptoRow, standIns := [], harness := (true, "2194b0eecbb242bdba0f5c71ea0189ea6e1ac61fdcf8150e72cccce2bbb72c1f"), looks := true }, kinds := [], alts := [], laidByText := true, laidKinds := [.handle, .data], laidTests := true, laidLooks := .later }
def VmCodesUptoCardSaid : Prop := Claim7.holds Tryd.pinned (.plain (OpenSpec.upto vmCodesSpec)) vmCodesUptoCard
end Rows
end Go.Proofs.YtdmffnjbholkkaaDoor
