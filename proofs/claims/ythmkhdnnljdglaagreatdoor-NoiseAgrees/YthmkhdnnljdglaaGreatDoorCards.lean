/-
  DERIVED. GIVEN WITH THE SEED: THE CARDS: each row of YthmkhdnnljdglaaGreatDoorRows.lean that lists a variable, with what it lists TIED to the program's text (the seventh form; the later family's looks); each row that meets fmt, with fmt's text TOLD by the authors' own Lean function (tested against real Go, not proved from fmt's source: count such statements apart). THE CARD IS WHAT COUNTS. Prove the row's statement (the work); the ties are given (YthmkhdnnljdglaaGreatDoorTie.lean); close each card by the builder's one call (the guide's Derived/Test/ToyasCard.lean, 'card_holds'). Laid BY PROGRAM, IN A SANDBOX (cutbox-door.mjs). By AI agents, Wed Nov 11 2026. No macro, syntax, notation, axiom, sorry.
-/
import Derived.Test.YthmkhdnnljdglaaGreatDoorRows
import GoSem.ClaimSeven
namespace Go.Proofs.YthmkhdnnljdglaaGreatDoor
namespace Rows

/-- THE TIED CARD OF 'hatchwaylaw10.NoiseTells'. -/
def noiseTellsCard : Claim7 := { stood := { row := noiseTellsRow, standIns := [], harness := (true, "267a8bd562bfa8baf7392fd53072c23586e00ee2449d2f4c706436f8ff12c5e0"), looks := true }, kinds := [], alts := [], laidByText := true, laidKinds := [.data, .data, .data], laidTests := true, laidLooks := .later }
def NoiseTellsCardSaid : Prop := Claim7.holds Tryz.pinned (.plain (OpenSpec.ofChange noiseTellsSpec)) noiseTellsCard

/-- THE TIED CARD OF 'hatchwaylaw10.NoiseAgrees'. -/
def noiseAgreesCard : Claim7 := { stood := { row := noiseAgreesRow, standIns := [], harness := (true, "267a8bd562bfa8baf7392fd53072c23586e00ee2449d2f4c706436f8ff12c5e0"), looks := true }, kinds := [], alts := [], laidByText := true, laidKinds := [.data, .data, .data], laidTests := true, laidLooks := .later }
def NoiseAgreesCardSaid : Prop := Claim7.holds Tryz.pinned (.plain (OpenSpec.ofChange noiseAgreesSpec)) noiseAgreesCard

/-- THE TIED CARD OF 'hatchwaylaw10.NoiseTurns'. -/
def noiseTurnsCard : Claim7 := { stood := { row := noiseTurnsRow, standIns := [], harness := (true, "267a8bd562bfa8baf7392fd53072c23586e00ee2449d2f4c706436f8ff12c5e0"), looks := true }, kinds := [], alts := [], laidByText := true, laidKinds := [.data, .data, .data], laidTests := true, laidLooks := .later }
def NoiseTurnsCardSaid : Prop := Claim7.holds Tryz.pinned (.plain (OpenSpec.ofChange noiseTurnsSpec)) noiseTurnsCard

/-- THE TIED CARD OF 'hatchwaylaw10.NoiseTags'. -/
def noiseTagsCard : Claim7 := { stood := { row := noiseTagsRow, standIns := [], harness := (true, "267a8bd562bfa8baf7392fd53072c23586e00ee2449d2f4c706436f8ff12c5e0"), looks := true }, kinds := [], alts := [], laidByText := true, laidKinds := [.data, .data, .data], laidTests := true, laidLooks := .later }
def NoiseTagsCardSaid : Prop := Claim7.holds Tryz.pinned (.plain (OpenSpec.ofChange noiseTagsSpec)) noiseTagsCard

/-- THE TIED CARD OF 'hatchwaylaw10.NoiseSame'. -/
def noiseSameCard : Claim7 := { stood := { row := noiseSameRow, standIns := [], harness := (true, "267a8bd562bfa8baf7392fd53072c23586e00ee2449d2f4c706436f8ff12c5e0"), looks := true }, kinds := [], alts := [], laidByText := true, laidKinds := [.data, .data, .data], laidTests := true, laidLooks := .later }
def NoiseSameCardSaid : Prop := Claim7.holds Tryz.pinned (.plain (OpenSpec.ofChange noiseSameSpec)) noiseSameCard

/-- THE SECOND FORM's CARD OF 'hatchwaylaw10.NoiseTells'. -/
def noiseTellsUptoCard : Claim7 := { stood := { row := noiseTellsUptoRow, standIns := [], harness := (true, "267a8bd562bfa8baf7392fd53072c23586e00ee2449d2f4c706436f8ff12c5e0"), looks := true }, kinds := [], alts := [], laidByText := true, laidKinds := [.data, .data, .data], laidTests := true, laidLooks := .later }
def NoiseTellsUptoCardSaid : Prop := Claim7.holds Tryz.pinned (.plain (OpenSpec.upto noiseTellsSpec)) noiseTellsUptoCard

/-- THE SECOND FORM's CARD OF 'hatchwaylaw10.NoiseAgrees'. -/
def noiseAgreesUptoCard : Claim7 := { stood := { row := noiseAgreesUptoRow, standIns := [], harness := (true, "267a8bd562bfa8baf7392fd53072c23586e00ee2449d2f4c706436f8ff12c5e0"), looks := true }, kinds := [], alts := [], laidByText := true, laidKinds := [.data, .data, .data], laidTests := true, laidLooks := .later }
def NoiseAgreesUptoCardSaid : Prop := Claim7.holds Tryz.pinned (.plain (OpenSpec.upto noiseAgreesSpec)) noiseAgreesUptoCard

/-- THE SECOND FORM's CARD OF 'hatchwaylaw10.NoiseTurns'. -/
def noiseTurnsUptoCard : Claim7 := { stood := { row := noiseTurnsUptoRow, standIns := [], harness := (true, "267a8bd562bfa8baf7392fd53072c23586e00ee2449d2f4c706436f8ff12c5e0"), looks := true }, kinds := [], alts := [], laidByText := true, laidKinds := [.data, .data, .data], laidTests := true, laidLooks := .later }
def NoiseTurnsUptoCardSaid : Prop := Claim7.holds Tryz.pinned (.plain (OpenSpec.upto noiseTurnsSpec)) noiseTurnsUptoCard

/-- THE SECOND FORM's CARD OF 'hatchwaylaw10.NoiseTags'. -/
def noiseTagsUptoCard : Claim7 := { stood := { row := noiseTagsUptoRow, standIns := [], harness := (true, "267a8bd562bfa8baf7392fd53072c23586e00ee2449d2f4c706436f8ff12c5e0"), looks := true }, kinds := [], alts := [], laidByText := true, laidKinds := [.data, .data, .data], laidTests := true, laidLooks := .later }
def NoiseTagsUptoCardSaid : Prop := Claim7.holds Tryz.pinned (.plain (OpenSpec.upto noiseTagsSpec)) noiseTagsUptoCard

/-- THE SECOND FORM's CARD OF 'hatchwaylaw10.NoiseSame'. -/
def noiseSameUptoCard : Claim7 := { stood := { row := noiseSameUptoRow, standIns := [], harness := (true, "267a8bd562bfa8baf7392fd53072c23586e00ee2449d2f4c706436f8ff12c5e0"), looks := true }, kinds := [], alts := [], laidByText := true, laidKinds := [.data, .data, .data], laidTests := true, laidLooks := .later }
def NoiseSameUptoCardSaid : Prop := Claim7.holds Tryz.pinned (.plain (OpenSpec.upto noiseSameSpec)) noiseSameUptoCard
end Rows
end Go.Proofs.YthmkhdnnljdglaaGreatDoor
