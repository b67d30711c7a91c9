/-
  DERIVED. GIVEN WITH THE SEED: THE CARDS: each row of YtgggdcliepgahaaDoorRows.lean that lists a variable, with what it lists TIED to the program's text (the seventh form; the later family's looks); each row that meets fmt, with fmt's text TOLD by the authors' own Lean function (tested against real Go, not proved from fmt's source: count such statements apart). THE CARD IS WHAT COUNTS. Prove the row's statement (the work); the ties are given (YtgggdcliepgahaaDoorTie.lean); close each card by the builder's one call (the guide's Derived/Test/ToyasCard.lean, 'card_holds'). Laid BY PROGRAM, IN A SANDBOX (cutbox-door.mjs). By AI agents, Wed Nov 11 2026. No macro, syntax, notation, axiom, sorry.
-/
import Derived.Test.YtgggdcliepgahaaDoorRows
import GoSem.ClaimSeven
namespace Go.Proofs.YtgggdcliepgahaaDoor
namespace Rows

/-- THE TIED CARD OF 'hatchwaylaw07.FieldTells'. -/
def fieldTellsCard : Claim7 := { stood := { row := fieldTellsRow, standIns := [], harness := (true, "78475806747e26e12dacb344aed55e03df0e7f25c9436cdb9f4010e635a2996e"), looks := false }, kinds := [], alts := [], laidByText := true, laidKinds := [.data], laidTests := true, laidLooks := .later }
def FieldTellsCardSaid : Prop := Claim7.holds Tryd.pinned (.plain (OpenSpec.ofChange fieldTellsSpec)) fieldTellsCard

/-- THE TIED CARD OF 'hatchwaylaw07.FieldLong'. -/
def fieldLongCard : Claim7 := { stood := { row := fieldLongRow, standIns := [], harness := (true, "78475806747e26e12dacb344aed55e03df0e7f25c9436cdb9f4010e635a2996e"), looks := false }, kinds := [], alts := [], laidByText := true, laidKinds := [.data], laidTests := true, laidLooks := .later }
def FieldLongCardSaid : Prop := Claim7.holds Tryd.pinned (.plain (OpenSpec.ofChange fieldLongSpec)) fieldLongCard

/-- THE TIED CARD OF 'hatchwaylaw07.FieldRing'. -/
def fieldRingCard : Claim7 := { stood := { row := fieldRingRow, standIns := [], harness := (true, "78475806747e26e12dacb344aed55e03df0e7f25c9436cdb9f4010e635a2996e"), looks := false }, kinds := [], alts := [], laidByText := true, laidKinds := [.data], laidTests := true, laidLooks := .later }
def FieldRingCardSaid : Prop := Claim7.holds Tryd.pinned (.plain (OpenSpec.ofChange fieldRingSpec)) fieldRingCard

/-- THE TIED CARD OF 'hatchwaylaw07.FieldSmall'. -/
def fieldSmallCard : Claim7 := { stood := { row := fieldSmallRow, standIns := [], harness := (true, "78475806747e26e12dacb344aed55e03df0e7f25c9436cdb9f4010e635a2996e"), looks := false }, kinds := [], alts := [], laidByText := true, laidKinds := [.data], laidTests := true, laidLooks := .later }
def FieldSmallCardSaid : Prop := Claim7.holds Tryd.pinned (.plain (OpenSpec.ofChange fieldSmallSpec)) fieldSmallCard

/-- THE TIED CARD OF 'hatchwaylaw07.FieldSquares'. -/
def fieldSquaresCard : Claim7 := { stood := { row := fieldSquaresRow, standIns := [], harness := (true, "78475806747e26e12dacb344aed55e03df0e7f25c9436cdb9f4010e635a2996e"), looks := false }, kinds := [], alts := [], laidByText := true, laidKinds := [.data], laidTests := true, laidLooks := .later }
def FieldSquaresCardSaid : Prop := Claim7.holds Tryd.pinned (.plain (OpenSpec.ofChange fieldSquaresSpec)) fieldSquaresCard

/-- THE TIED CARD OF 'hatchwaylaw07.FieldTurned'. -/
def fieldTurnedCard : Claim7 := { stood := { row := fieldTurnedRow, standIns := [], harness := (true, "78475806747e26e12dacb344aed55e03df0e7f25c9436cdb9f4010e635a2996e"), looks := false }, kinds := [], alts := [], laidByText := true, laidKinds := [.data], laidTests := true, laidLooks := .later }
def FieldTurnedCardSaid : Prop := Claim7.holds Tryd.pinned (.plain (OpenSpec.ofChange fieldTurnedSpec)) fieldTurnedCard

/-- THE SECOND FORM's CARD OF 'hatchwaylaw07.FieldTells'. -/
def fieldTellsUptoCard : Claim7 := { stood := { row := fieldTellsUptoRow, standIns := [], harness := (true, "78475806747e26e12dacb344aed55e03df0e7f25c9436cdb9f4010e635a2996e"), looks := false }, kinds := [], alts := [], laidByText := true, laidKinds := [.data], laidTests := true, laidLooks := .later }
def FieldTellsUptoCardSaid : Prop := Claim7.holds Tryd.pinned (.plain (OpenSpec.upto fieldTellsSpec)) fieldTellsUptoCard

/-- THE SECOND FORM's CARD OF 'hatchwaylaw07.FieldLong'. -/
def fieldLongUptoCard : Claim7 := { stood := { row := fieldLongUptoRow, standIns := [], harness := (true, "78475806747e26e12dacb344aed55e03df0e7f25c9436cdb9f4010e635a2996e"), looks := false }, kinds := [], alts := [], laidByText := true, laidKinds := [.data], laidTests := true, laidLooks := .later }
def FieldLongUptoCardSaid : Prop := Claim7.holds Tryd.pinned (.plain (OpenSpec.upto fieldLongSpec)) fieldLongUptoCard

/-- THE SECOND FORM's CARD OF 'hatchwaylaw07.FieldRing'. -/
def fieldRingUptoCard : Claim7 := { stood := { row := fieldRingUptoRow, standIns := [], harness := (true, "78475806747e26e12dacb344aed55e03df0e7f25c9436cdb9f4010e635a2996e"), looks := false }, kinds := [], alts := [], laidByText := true, laidKinds := [.data], laidTests := true, laidLooks := .later }
def FieldRingUptoCardSaid : Prop := Claim7.holds Tryd.pinned (.plain (OpenSpec.upto fieldRingSpec)) fieldRingUptoCard

/-- THE SECOND FORM's CARD OF 'hatchwaylaw07.FieldSmall'. -/
def fieldSmallUptoCard : Claim7 := { stood := { row := fieldSmallUptoRow, standIns := [], harness := (true, "78475806747e26e12dacb344aed55e03df0e7f25c9436cdb9f4010e635a2996e"), looks := false }, kinds := [], alts := [], laidByText := true, laidKinds := [.data], laidTests := true, laidLooks := .later }
def FieldSmallUptoCardSaid : Prop := Claim7.holds Tryd.pinned (.plain (OpenSpec.upto fieldSmallSpec)) fieldSmallUptoCard

/-- THE SECOND FORM's CARD OF 'hatchwaylaw07.FieldSquares'. -/
def fieldSquaresUptoCard : Claim7 := { stood := { row := fieldSquaresUptoRow, standIns := [], harness := (true, "78475806747e26e12dacb344aed55e03df0e7f25c9436cdb9f4010e635a2996e"), looks := false }, kinds := [], alts := [], laidByText := true, laidKinds := [.data], laidTests := true, laidLooks := .later }
def FieldSquaresUptoCardSaid : Prop := Claim7.holds Tryd.pinned (.plain (OpenSpec.upto fieldSquaresSpec)) fieldSquaresUptoCard

/-- THE SECOND FORM's CARD OF 'hatchwaylaw07.FieldTurned'. -/
def fieldTurnedUptoCard : Claim7 := { stood := { row := fieldTurnedUptoRow, standIns := [], harness := (true, "78475806747e26e12dacb344aed55e03df0e7f25c9436cdb9f4010e635a2996e"), looks := false }, kinds := [], alts := [], laidByText := true, laidKinds := [.data], laidTests := true, laidLooks := .later }
def FieldTurnedUptoCardSaid : Prop := Claim7.holds Tryd.pinned (.plain (OpenSpec.upto fieldTurnedSpec)) fieldTurnedUptoCard
end Rows
end Go.Proofs.YtgggdcliepgahaaDoor
