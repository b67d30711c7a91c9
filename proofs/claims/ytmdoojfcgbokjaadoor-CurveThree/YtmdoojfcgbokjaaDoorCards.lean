/-
  DERIVED. GIVEN WITH THE SEED: THE CARDS: each row of YtmdoojfcgbokjaaDoorRows.lean that lists a variable, with what it lists TIED to the program's text (the seventh form; the later family's looks); each row that meets fmt, with fmt's text TOLD by the authors' own Lean function (tested against real Go, not proved from fmt's source: count such statements apart). THE CARD IS WHAT COUNTS. Prove the row's statement (the work); the ties are given (YtmdoojfcgbokjaaDoorTie.lean); close each card by the builder's one call (the guide's Derived/Test/ToyasCard.lean, 'card_holds'). Laid BY PROGRAM, IN A SANDBOX (cutbox-door.mjs). By AI agents, Wed Nov 11 2026. No macro, syntax, notation, axiom, sorry.
-/
import Derived.Test.YtmdoojfcgbokjaaDoorRows
import GoSem.ClaimSeven
namespace Go.Proofs.YtmdoojfcgbokjaaDoor
namespace Rows

/-- THE TIED CARD OF 'hatchwaylaw08.CurveTells'. -/
def curveTellsCard : Claim7 := { stood := { row := curveTellsRow, standIns := [], harness := (true, "312b996d2647e702c4c14af067d41751db2d756da493b5bbd5d75fb41e774663"), looks := false }, kinds := [], alts := [], laidByText := true, laidKinds := [.data], laidTests := true, laidLooks := .later }
def CurveTellsCardSaid : Prop := Claim7.holds Tryd.pinned (.plain (OpenSpec.ofChange curveTellsSpec)) curveTellsCard

/-- THE TIED CARD OF 'hatchwaylaw08.CurvePublic'. -/
def curvePublicCard : Claim7 := { stood := { row := curvePublicRow, standIns := [], harness := (true, "312b996d2647e702c4c14af067d41751db2d756da493b5bbd5d75fb41e774663"), looks := false }, kinds := [], alts := [], laidByText := true, laidKinds := [.data], laidTests := true, laidLooks := .later }
def CurvePublicCardSaid : Prop := Claim7.holds Tryd.pinned (.plain (OpenSpec.ofChange curvePublicSpec)) curvePublicCard

/-- THE TIED CARD OF 'hatchwaylaw08.CurveAgrees'. -/
def curveAgreesCard : Claim7 := { stood := { row := curveAgreesRow, standIns := [], harness := (true, "312b996d2647e702c4c14af067d41751db2d756da493b5bbd5d75fb41e774663"), looks := false }, kinds := [], alts := [], laidByText := true, laidKinds := [.data], laidTests := true, laidLooks := .later }
def CurveAgreesCardSaid : Prop := Claim7.holds Tryd.pinned (.plain (OpenSpec.ofChange curveAgreesSpec)) curveAgreesCard

/-- THE TIED CARD OF 'hatchwaylaw08.CurveClamps'. -/
def curveClampsCard : Claim7 := { stood := { row := curveClampsRow, standIns := [], harness := (true, "312b996d2647e702c4c14af067d41751db2d756da493b5bbd5d75fb41e774663"), looks := false }, kinds := [], alts := [], laidByText := true, laidKinds := [.data], laidTests := true, laidLooks := .later }
def CurveClampsCardSaid : Prop := Claim7.holds Tryd.pinned (.plain (OpenSpec.ofChange curveClampsSpec)) curveClampsCard

/-- THE TIED CARD OF 'hatchwaylaw08.CurveOrder'. -/
def curveOrderCard : Claim7 := { stood := { row := curveOrderRow, standIns := [], harness := (true, "312b996d2647e702c4c14af067d41751db2d756da493b5bbd5d75fb41e774663"), looks := false }, kinds := [], alts := [], laidByText := true, laidKinds := [.data], laidTests := true, laidLooks := .later }
def CurveOrderCardSaid : Prop := Claim7.holds Tryd.pinned (.plain (OpenSpec.ofChange curveOrderSpec)) curveOrderCard

/-- THE TIED CARD OF 'hatchwaylaw08.CurveSmall'. -/
def curveSmallCard : Claim7 := { stood := { row := curveSmallRow, standIns := [], harness := (true, "312b996d2647e702c4c14af067d41751db2d756da493b5bbd5d75fb41e774663"), looks := false }, kinds := [], alts := [], laidByText := true, laidKinds := [.data], laidTests := true, laidLooks := .later }
def CurveSmallCardSaid : Prop := Claim7.holds Tryd.pinned (.plain (OpenSpec.ofChange curveSmallSpec)) curveSmallCard

/-- THE TIED CARD OF 'hatchwaylaw08.CurveLeast'. -/
def curveLeastCard : Claim7 := { stood := { row := curveLeastRow, standIns := [], harness := (true, "312b996d2647e702c4c14af067d41751db2d756da493b5bbd5d75fb41e774663"), looks := false }, kinds := [], alts := [], laidByText := true, laidKinds := [.data], laidTests := true, laidLooks := .later }
def CurveLeastCardSaid : Prop := Claim7.holds Tryd.pinned (.plain (OpenSpec.ofChange curveLeastSpec)) curveLeastCard

/-- THE TIED CARD OF 'hatchwaylaw08.CurveThree'. -/
def curveThreeCard : Claim7 := { stood := { row := curveThreeRow, standIns := [], harness := (true, "312b996d2647e702c4c14af067d41751db2d756da493b5bbd5d75fb41e774663"), looks := false }, kinds := [], alts := [], laidByText := true, laidKinds := [.data], laidTests := true, laidLooks := .later }
def CurveThreeCardSaid : Prop := Claim7.holds Tryd.pinned (.plain (OpenSpec.ofChange curveThreeSpec)) curveThreeCard

/-- THE SECOND FORM's CARD OF 'hatchwaylaw08.CurveTells'. -/
def curveTellsUptoCard : Claim7 := { stood := { row := curveTellsUptoRow, standIns := [], harness := (true, "312b996d2647e702c4c14af067d41751db2d756da493b5bbd5d75fb41e774663"), looks := false }, kinds := [], alts := [], laidByText := true, laidKinds := [.data], laidTests := true, laidLooks := .later }
def CurveTellsUptoCardSaid : Prop := Claim7.holds Tryd.pinned (.plain (OpenSpec.upto curveTellsSpec)) curveTellsUptoCard

/-- THE SECOND FORM's CARD OF 'hatchwaylaw08.CurvePublic'. -/
def curvePublicUptoCard : Claim7 := { stood := { row := curvePublicUptoRow, standIns := [], harness := (true, "312b996d2647e702c4c14af067d41751db2d756da493b5bbd5d75fb41e774663"), looks := false }, kinds := [], alts := [], laidByText := true, laidKinds := [.data], laidTests := true, laidLooks := .later }
def CurvePublicUptoCardSaid : Prop := Claim7.holds Tryd.pinned (.plain (OpenSpec.upto curvePublicSpec)) curvePublicUptoCard

/-- THE SECOND FORM's CARD OF 'hatchwaylaw08.CurveAgrees'. -/
def curveAgreesUptoCard : Claim7 := { stood := { row := curveAgreesUptoRow, standIns := [], harness := (true, "312b996d2647e702c4c14af067d41751db2d756da493b5bbd5d75fb41e774663"), looks := false }, kinds := [], alts := [], laidByText := true, laidKinds := [.data], laidTests := true, laidLooks := .later }
def CurveAgreesUptoCardSaid : Prop := Claim7.holds Tryd.pinned (.plain (OpenSpec.upto curveAgreesSpec)) curveAgreesUptoCard

/-- THE SECOND FORM's CARD OF 'hatchwaylaw08.CurveClamps'. -/
def curveClampsUptoCard : Claim7 := { stood := { row := curveClampsUptoRow, standIns := [], harness := (true, "312b996d2647e702c4c14af067d41751db2d756da493b5bbd5d75fb41e774663"), looks := false }, kinds := [], alts := [], laidByText := true, laidKinds := [.data], laidTests := true, laidLooks := .later }
def CurveClampsUptoCardSaid : Prop := Claim7.holds Tryd.pinned (.plain (OpenSpec.upto curveClampsSpec)) curveClampsUptoCard

/-- THE SECOND FORM's CARD OF 'hatchwaylaw08.CurveOrder'. -/
def curveOrderUptoCard : Claim7 := { stood := { row := curveOrderUptoRow, standIns := [], harness := (true, "312b996d2647e702c4c14af067d41751db2d756da493b5bbd5d75fb41e774663"), looks := false }, kinds := [], alts := [], laidByText := true, laidKinds := [.data], laidTests := true, laidLooks := .later }
def CurveOrderUptoCardSaid : Prop := Claim7.holds Tryd.pinned (.plain (OpenSpec.upto curveOrderSpec)) curveOrderUptoCard

/-- THE SECOND FORM's CARD OF 'hatchwaylaw08.CurveSmall'. -/
def curveSmallUptoCard : Claim7 := { stood := { row := curveSmallUptoRow, standIns := [], harness := (true, "312b996d2647e702c4c14af067d41751db2d756da493b5bbd5d75fb41e774663"), looks := false }, kinds := [], alts := [], laidByText := true, laidKinds := [.data], laidTests := true, laidLooks := .later }
def CurveSmallUptoCardSaid : Prop := Claim7.holds Tryd.pinned (.plain (OpenSpec.upto curveSmallSpec)) curveSmallUptoCard

/-- THE SECOND FORM's CARD OF 'hatchwaylaw08.CurveLeast'. -/
def curveLeastUptoCard : Claim7 := { stood := { row := curveLeastUptoRow, standIns := [], harness := (true, "312b996d2647e702c4c14af067d41751db2d756da493b5bbd5d75fb41e774663"), looks := false }, kinds := [], alts := [], laidByText := true, laidKinds := [.data], laidTests := true, laidLooks := .later }
def CurveLeastUptoCardSaid : Prop := Claim7.holds Tryd.pinned (.plain (OpenSpec.upto curveLeastSpec)) curveLeastUptoCard

/-- THE SECOND FORM's CARD OF 'hatchwaylaw08.CurveThree'. -/
def curveThreeUptoCard : Claim7 := { stood := { row := curveThreeUptoRow, standIns := [], harness := (true, "312b996d2647e702c4c14af067d41751db2d756da493b5bbd5d75fb41e774663"), looks := false }, kinds := [], alts := [], laidByText := true, laidKinds := [.data], laidTests := true, laidLooks := .later }
def CurveThreeUptoCardSaid : Prop := Claim7.holds Tryd.pinned (.plain (OpenSpec.upto curveThreeSpec)) curveThreeUptoCard
end Rows
end Go.Proofs.YtmdoojfcgbokjaaDoor
