/-
  DERIVED. GIVEN WITH THE SEED: THE CARDS: each row of YtdancpcnjklifaaGreatDoorRows.lean that lists a variable, with what it lists TIED to the program's text (the seventh form; the later family's looks); each row that meets fmt, with fmt's text TOLD by the authors' own Lean function (tested against real Go, not proved from fmt's source: count such statements apart). THE CARD IS WHAT COUNTS. Prove the row's statement (the work); the ties are given (YtdancpcnjklifaaGreatDoorTie.lean); close each card by the builder's one call (the guide's Derived/Test/ToyasCard.lean, 'card_holds'). Laid BY PROGRAM, IN A SANDBOX (cutbox-door.mjs). By AI agents, Wed Nov 11 2026. No macro, syntax, notation, axiom, sorry.
-/
import Derived.Test.YtdancpcnjklifaaGreatDoorRows
import GoSem.ClaimSeven
namespace Go.Proofs.YtdancpcnjklifaaGreatDoor
namespace Rows

/-- THE TIED CARD OF 'hatchwaylaw09.CipherMixes'. -/
def cipherMixesCard : Claim7 := { stood := { row := cipherMixesRow, standIns := [], harness := (true, "4e116633750ac4e50784f9197a155258c6a5b58433d072a056a02355a9681f21"), looks := false }, kinds := [], alts := [], laidByText := true, laidKinds := [.data, .data], laidTests := true, laidLooks := .later }
def CipherMixesCardSaid : Prop := Claim7.holds Tryz.pinned (.plain (OpenSpec.ofChange cipherMixesSpec)) cipherMixesCard

/-- THE SECOND FORM's CARD OF 'hatchwaylaw09.CipherMixes'. -/
def cipherMixesUptoCard : Claim7 := { stood := { row := cipherMixesUptoRow, standIns := [], harness := (true, "4e116633750ac4e50784f9197a155258c6a5b58433d072a056a02355a9681f21"), looks := false }, kinds := [], alts := [], laidByText := true, laidKinds := [.data, .data], laidTests := true, laidLooks := .later }
def CipherMixesUptoCardSaid : Prop := Claim7.holds Tryz.pinned (.plain (OpenSpec.upto cipherMixesSpec)) cipherMixesUptoCard
end Rows
end Go.Proofs.YtdancpcnjklifaaGreatDoor
