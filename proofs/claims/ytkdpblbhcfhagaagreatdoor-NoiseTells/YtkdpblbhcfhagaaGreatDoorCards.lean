/-
  DERIVED. GIVEN WITH THE SEED: THE CARDS: each row of YtkdpblbhcfhagaaGreatDoorRows.lean that lists a variable, with what it lists TIED to the program's text (the seventh form; the later family's looks); each row that meets fmt, with fmt's text TOLD by the authors' own Lean function (tested against real Go, not proved from fmt's source: count such statements apart). THE CARD IS WHAT COUNTS. Prove the row's statement (the work); the ties are given (YtkdpblbhcfhagaaGreatDoorTie.lean); close each card by the builder's one call (the guide's Derived/Test/ToyasCard.lean, 'card_holds'). Laid BY PROGRAM, IN A SANDBOX (cutbox-door.mjs). By AI agents, Wed Nov 11 2026. No macro, syntax, notation, axiom, sorry.
-/
import Derived.Test.YtkdpblbhcfhagaaGreatDoorRows
import GoSem.ClaimSeven
namespace Go.Proofs.YtkdpblbhcfhagaaGreatDoor
namespace Rows

/-- THE TIED CARD OF 'hatchwaylaw10.NoiseTells'. -/
def noiseTellsCard : Claim7 := { stood := { row := noiseTellsRow, standIns := [], harness := (true, "1e5255c36002f8946fa3ed79970e6581f05e246db2080bc2fb67b640fa21d7cf"), looks := true }, kinds := [], alts := [], laidByText := true, laidKinds := [.data, .data, .data], laidTests := true, laidLooks := .later }
def NoiseTellsCardSaid : Prop := Claim7.holds Tryz.pinned (.plain (OpenSpec.ofChange noiseTellsSpec)) noiseTellsCard

/-- THE SECOND FORM's CARD OF 'hatchwaylaw10.NoiseTells'. -/
def noiseTellsUptoCard : Claim7 := { stood := { row := noiseTellsUptoRow, standIns := [], harness := (true, "1e5255c36002f8946fa3ed79970e6581f05e246db2080bc2fb67b640fa21d7cf"), looks := true }, kinds := [], alts := [], laidByText := true, laidKinds := [.data, .data, .data], laidTests := true, laidLooks := .later }
def NoiseTellsUptoCardSaid : Prop := Claim7.holds Tryz.pinned (.plain (OpenSpec.upto noiseTellsSpec)) noiseTellsUptoCard
end Rows
end Go.Proofs.YtkdpblbhcfhagaaGreatDoor
