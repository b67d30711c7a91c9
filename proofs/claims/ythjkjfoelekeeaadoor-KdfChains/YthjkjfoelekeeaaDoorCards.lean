/-
  DERIVED. GIVEN WITH THE SEED: THE CARDS: each row of YthjkjfoelekeeaaDoorRows.lean that lists a variable, with what it lists TIED to the program's text (the seventh form; the later family's looks); each row that meets fmt, with fmt's text TOLD by the authors' own Lean function (tested against real Go, not proved from fmt's source: count such statements apart). THE CARD IS WHAT COUNTS. Prove the row's statement (the work); the ties are given (YthjkjfoelekeeaaDoorTie.lean); close each card by the builder's one call (the guide's Derived/Test/ToyasCard.lean, 'card_holds'). Laid BY PROGRAM, IN A SANDBOX (cutbox-door.mjs). By AI agents, Wed Nov 11 2026. No macro, syntax, notation, axiom, sorry.
-/
import Derived.Test.YthjkjfoelekeeaaDoorRows
import GoSem.ClaimSeven
namespace Go.Proofs.YthjkjfoelekeeaaDoor
namespace Rows

/-- THE TIED CARD OF 'hatchwaylaw06.KdfMacs'. -/
def kdfMacsCard : Claim7 := { stood := { row := kdfMacsRow, standIns := [], harness := (true, "0dccd32cd4f41893e6b27db83611249346b87b68bd673c0c5c6c12e1fa9da9d8"), looks := false }, kinds := [], alts := [], laidByText := true, laidKinds := [.data, .data], laidTests := true, laidLooks := .later }
def KdfMacsCardSaid : Prop := Claim7.holds Tryd.pinned (.plain (OpenSpec.ofChange kdfMacsSpec)) kdfMacsCard

/-- THE TIED CARD OF 'hatchwaylaw06.KdfDerives'. -/
def kdfDerivesCard : Claim7 := { stood := { row := kdfDerivesRow, standIns := [], harness := (true, "0dccd32cd4f41893e6b27db83611249346b87b68bd673c0c5c6c12e1fa9da9d8"), looks := false }, kinds := [], alts := [], laidByText := true, laidKinds := [.data, .data], laidTests := true, laidLooks := .later }
def KdfDerivesCardSaid : Prop := Claim7.holds Tryd.pinned (.plain (OpenSpec.ofChange kdfDerivesSpec)) kdfDerivesCard

/-- THE TIED CARD OF 'hatchwaylaw06.KdfFilled'. -/
def kdfFilledCard : Claim7 := { stood := { row := kdfFilledRow, standIns := [], harness := (true, "0dccd32cd4f41893e6b27db83611249346b87b68bd673c0c5c6c12e1fa9da9d8"), looks := false }, kinds := [], alts := [], laidByText := true, laidKinds := [.data, .data], laidTests := true, laidLooks := .later }
def KdfFilledCardSaid : Prop := Claim7.holds Tryd.pinned (.plain (OpenSpec.ofChange kdfFilledSpec)) kdfFilledCard

/-- THE TIED CARD OF 'hatchwaylaw06.KdfChains'. -/
def kdfChainsCard : Claim7 := { stood := { row := kdfChainsRow, standIns := [], harness := (true, "0dccd32cd4f41893e6b27db83611249346b87b68bd673c0c5c6c12e1fa9da9d8"), looks := false }, kinds := [], alts := [], laidByText := true, laidKinds := [.data, .data], laidTests := true, laidLooks := .later }
def KdfChainsCardSaid : Prop := Claim7.holds Tryd.pinned (.plain (OpenSpec.ofChange kdfChainsSpec)) kdfChainsCard

/-- THE TIED CARD OF 'hatchwaylaw06.KdfLong'. -/
def kdfLongCard : Claim7 := { stood := { row := kdfLongRow, standIns := [], harness := (true, "0dccd32cd4f41893e6b27db83611249346b87b68bd673c0c5c6c12e1fa9da9d8"), looks := false }, kinds := [], alts := [], laidByText := true, laidKinds := [.data, .data], laidTests := true, laidLooks := .later }
def KdfLongCardSaid : Prop := Claim7.holds Tryd.pinned (.plain (OpenSpec.ofChange kdfLongSpec)) kdfLongCard

/-- THE SECOND FORM's CARD OF 'hatchwaylaw06.KdfMacs'. -/
def kdfMacsUptoCard : Claim7 := { stood := { row := kdfMacsUptoRow, standIns := [], harness := (true, "0dccd32cd4f41893e6b27db83611249346b87b68bd673c0c5c6c12e1fa9da9d8"), looks := false }, kinds := [], alts := [], laidByText := true, laidKinds := [.data, .data], laidTests := true, laidLooks := .later }
def KdfMacsUptoCardSaid : Prop := Claim7.holds Tryd.pinned (.plain (OpenSpec.upto kdfMacsSpec)) kdfMacsUptoCard

/-- THE SECOND FORM's CARD OF 'hatchwaylaw06.KdfDerives'. -/
def kdfDerivesUptoCard : Claim7 := { stood := { row := kdfDerivesUptoRow, standIns := [], harness := (true, "0dccd32cd4f41893e6b27db83611249346b87b68bd673c0c5c6c12e1fa9da9d8"), looks := false }, kinds := [], alts := [], laidByText := true, laidKinds := [.data, .data], laidTests := true, laidLooks := .later }
def KdfDerivesUptoCardSaid : Prop := Claim7.holds Tryd.pinned (.plain (OpenSpec.upto kdfDerivesSpec)) kdfDerivesUptoCard

/-- THE SECOND FORM's CARD OF 'hatchwaylaw06.KdfFilled'. -/
def kdfFilledUptoCard : Claim7 := { stood := { row := kdfFilledUptoRow, standIns := [], harness := (true, "0dccd32cd4f41893e6b27db83611249346b87b68bd673c0c5c6c12e1fa9da9d8"), looks := false }, kinds := [], alts := [], laidByText := true, laidKinds := [.data, .data], laidTests := true, laidLooks := .later }
def KdfFilledUptoCardSaid : Prop := Claim7.holds Tryd.pinned (.plain (OpenSpec.upto kdfFilledSpec)) kdfFilledUptoCard

/-- THE SECOND FORM's CARD OF 'hatchwaylaw06.KdfChains'. -/
def kdfChainsUptoCard : Claim7 := { stood := { row := kdfChainsUptoRow, standIns := [], harness := (true, "0dccd32cd4f41893e6b27db83611249346b87b68bd673c0c5c6c12e1fa9da9d8"), looks := false }, kinds := [], alts := [], laidByText := true, laidKinds := [.data, .data], laidTests := true, laidLooks := .later }
def KdfChainsUptoCardSaid : Prop := Claim7.holds Tryd.pinned (.plain (OpenSpec.upto kdfChainsSpec)) kdfChainsUptoCard

/-- THE SECOND FORM's CARD OF 'hatchwaylaw06.KdfLong'. -/
def kdfLongUptoCard : Claim7 := { stood := { row := kdfLongUptoRow, standIns := [], harness := (true, "0dccd32cd4f41893e6b27db83611249346b87b68bd673c0c5c6c12e1fa9da9d8"), looks := false }, kinds := [], alts := [], laidByText := true, laidKinds := [.data, .data], laidTests := true, laidLooks := .later }
def KdfLongUptoCardSaid : Prop := Claim7.holds Tryd.pinned (.plain (OpenSpec.upto kdfLongSpec)) kdfLongUptoCard
end Rows
end Go.Proofs.YthjkjfoelekeeaaDoor
