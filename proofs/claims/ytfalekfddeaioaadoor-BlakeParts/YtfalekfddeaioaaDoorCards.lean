/-
  DERIVED. GIVEN WITH THE SEED: THE CARDS: each row of YtfalekfddeaioaaDoorRows.lean that lists a variable, with what it lists TIED to the program's text (the seventh form; the later family's looks); each row that meets fmt, with fmt's text TOLD by the authors' own Lean function (tested against real Go, not proved from fmt's source: count such statements apart). THE CARD IS WHAT COUNTS. Prove the row's statement (the work); the ties are given (YtfalekfddeaioaaDoorTie.lean); close each card by the builder's one call (the guide's Derived/Test/ToyasCard.lean, 'card_holds'). Laid BY PROGRAM, IN A SANDBOX (cutbox-door.mjs). By AI agents, Wed Nov 11 2026. No macro, syntax, notation, axiom, sorry.
-/
import Derived.Test.YtfalekfddeaioaaDoorRows
import GoSem.ClaimSeven
namespace Go.Proofs.YtfalekfddeaioaaDoor
namespace Rows

/-- THE TIED CARD OF 'hatchwaylaw05.BlakeTells'. -/
def blakeTellsCard : Claim7 := { stood := { row := blakeTellsRow, standIns := [], harness := (true, "0b16b0e5ea127084644c848e882ce748be50382e37dfe581df74ae328e1370af"), looks := false }, kinds := [], alts := [], laidByText := true, laidKinds := [.data, .data], laidTests := true, laidLooks := .later }
def BlakeTellsCardSaid : Prop := Claim7.holds Tryd.pinned (.plain (OpenSpec.ofChange blakeTellsSpec)) blakeTellsCard

/-- THE TIED CARD OF 'hatchwaylaw05.BlakeParts'. -/
def blakePartsCard : Claim7 := { stood := { row := blakePartsRow, standIns := [], harness := (true, "0b16b0e5ea127084644c848e882ce748be50382e37dfe581df74ae328e1370af"), looks := false }, kinds := [], alts := [], laidByText := true, laidKinds := [.data, .data], laidTests := true, laidLooks := .later }
def BlakePartsCardSaid : Prop := Claim7.holds Tryd.pinned (.plain (OpenSpec.ofChange blakePartsSpec)) blakePartsCard

/-- THE TIED CARD OF 'hatchwaylaw05.BlakeEdges'. -/
def blakeEdgesCard : Claim7 := { stood := { row := blakeEdgesRow, standIns := [], harness := (true, "0b16b0e5ea127084644c848e882ce748be50382e37dfe581df74ae328e1370af"), looks := false }, kinds := [], alts := [], laidByText := true, laidKinds := [.data, .data], laidTests := true, laidLooks := .later }
def BlakeEdgesCardSaid : Prop := Claim7.holds Tryd.pinned (.plain (OpenSpec.ofChange blakeEdgesSpec)) blakeEdgesCard

/-- THE TIED CARD OF 'hatchwaylaw05.BlakeApart'. -/
def blakeApartCard : Claim7 := { stood := { row := blakeApartRow, standIns := [], harness := (true, "0b16b0e5ea127084644c848e882ce748be50382e37dfe581df74ae328e1370af"), looks := false }, kinds := [], alts := [], laidByText := true, laidKinds := [.data, .data], laidTests := true, laidLooks := .later }
def BlakeApartCardSaid : Prop := Claim7.holds Tryd.pinned (.plain (OpenSpec.ofChange blakeApartSpec)) blakeApartCard

/-- THE TIED CARD OF 'hatchwaylaw05.BlakeBytes'. -/
def blakeBytesCard : Claim7 := { stood := { row := blakeBytesRow, standIns := [], harness := (true, "0b16b0e5ea127084644c848e882ce748be50382e37dfe581df74ae328e1370af"), looks := false }, kinds := [], alts := [], laidByText := true, laidKinds := [.data, .data], laidTests := true, laidLooks := .later }
def BlakeBytesCardSaid : Prop := Claim7.holds Tryd.pinned (.plain (OpenSpec.ofChange blakeBytesSpec)) blakeBytesCard

/-- THE SECOND FORM's CARD OF 'hatchwaylaw05.BlakeTells'. -/
def blakeTellsUptoCard : Claim7 := { stood := { row := blakeTellsUptoRow, standIns := [], harness := (true, "0b16b0e5ea127084644c848e882ce748be50382e37dfe581df74ae328e1370af"), looks := false }, kinds := [], alts := [], laidByText := true, laidKinds := [.data, .data], laidTests := true, laidLooks := .later }
def BlakeTellsUptoCardSaid : Prop := Claim7.holds Tryd.pinned (.plain (OpenSpec.upto blakeTellsSpec)) blakeTellsUptoCard

/-- THE SECOND FORM's CARD OF 'hatchwaylaw05.BlakeParts'. -/
def blakePartsUptoCard : Claim7 := { stood := { row := blakePartsUptoRow, standIns := [], harness := (true, "0b16b0e5ea127084644c848e882ce748be50382e37dfe581df74ae328e1370af"), looks := false }, kinds := [], alts := [], laidByText := true, laidKinds := [.data, .data], laidTests := true, laidLooks := .later }
def BlakePartsUptoCardSaid : Prop := Claim7.holds Tryd.pinned (.plain (OpenSpec.upto blakePartsSpec)) blakePartsUptoCard

/-- THE SECOND FORM's CARD OF 'hatchwaylaw05.BlakeEdges'. -/
def blakeEdgesUptoCard : Claim7 := { stood := { row := blakeEdgesUptoRow, standIns := [], harness := (true, "0b16b0e5ea127084644c848e882ce748be50382e37dfe581df74ae328e1370af"), looks := false }, kinds := [], alts := [], laidByText := true, laidKinds := [.data, .data], laidTests := true, laidLooks := .later }
def BlakeEdgesUptoCardSaid : Prop := Claim7.holds Tryd.pinned (.plain (OpenSpec.upto blakeEdgesSpec)) blakeEdgesUptoCard

/-- THE SECOND FORM's CARD OF 'hatchwaylaw05.BlakeApart'. -/
def blakeApartUptoCard : Claim7 := { stood := { row := blakeApartUptoRow, standIns := [], harness := (true, "0b16b0e5ea127084644c848e882ce748be50382e37dfe581df74ae328e1370af"), looks := false }, kinds := [], alts := [], laidByText := true, laidKinds := [.data, .data], laidTests := true, laidLooks := .later }
def BlakeApartUptoCardSaid : Prop := Claim7.holds Tryd.pinned (.plain (OpenSpec.upto blakeApartSpec)) blakeApartUptoCard

/-- THE SECOND FORM's CARD OF 'hatchwaylaw05.BlakeBytes'. -/
def blakeBytesUptoCard : Claim7 := { stood := { row := blakeBytesUptoRow, standIns := [], harness := (true, "0b16b0e5ea127084644c848e882ce748be50382e37dfe581df74ae328e1370af"), looks := false }, kinds := [], alts := [], laidByText := true, laidKinds := [.data, .data], laidTests := true, laidLooks := .later }
def BlakeBytesUptoCardSaid : Prop := Claim7.holds Tryd.pinned (.plain (OpenSpec.upto blakeBytesSpec)) blakeBytesUptoCard
end Rows
end Go.Proofs.YtfalekfddeaioaaDoor
