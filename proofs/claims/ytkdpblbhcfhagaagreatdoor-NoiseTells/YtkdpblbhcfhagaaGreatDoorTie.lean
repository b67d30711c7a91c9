/-
  DERIVED. GIVEN WITH THE SEED: THE PROGRAM's TIES (one call each: nine closed facts by the kernel) AND EACH ROW's TIE, after the 31st guide's Derived/Test/Toyas{Tie, Card}.lean. No idea stands in it: it is a product of the set-up. Laid BY PROGRAM, IN A SANDBOX (cutbox-door.mjs). By AI agents, Wed Nov 11 2026. No macro, syntax, notation, axiom, sorry.
-/
import Derived.Test.YtkdpblbhcfhagaaGreatDoorRows
import Derived.LaidByTextLater
import Derived.SevenTiedAt
import Derived.LaidSub
import Derived.LaidOnce
namespace Go.Proofs.YtkdpblbhcfhagaaGreatDoor
open Go
set_option maxRecDepth 100000
theorem seatTie1 : Tryz.prog.laidByTextLater [("hatchway/blake.iv", Rows.laid_hatchway_blake_iv), ("hatchway/blake.rows", Rows.laid_hatchway_blake_rows), ("hatchway/field.twiceP", Rows.laid_hatchway_field_twiceP)] [.data, .data, .data] true :=
  Program.laidByTextLater_by_one 34 8 161 (by kernel_rfl) (by kernel_rfl) (by kernel_rfl) (by kernel_rfl) (by kernel_rfl) (by kernel_rfl) (fun _ _ => by kernel_rfl)
theorem noOwnUnsafe : Tryz.pinned.checked.prog.headLifts.contains "ownunsafe" = false := by kernel_rfl
theorem tie : Tryz.prog.laidByTextLater [("hatchway/blake.iv", Rows.laid_hatchway_blake_iv), ("hatchway/blake.rows", Rows.laid_hatchway_blake_rows), ("hatchway/field.twiceP", Rows.laid_hatchway_field_twiceP)] [.data, .data, .data] true :=
  Program.laidByTextLater.sub seatTie1 ["hatchway/blake.iv", "hatchway/blake.rows", "hatchway/field.twiceP"] (by kernel_rfl) (by kernel_rfl)
theorem noiseTells_row_tie : Rows.noiseTellsRow.laidByTextAt .later Tryz.pinned [.data, .data, .data] true :=
  OpenClaim.laidByTextAt_later rfl rfl tie noOwnUnsafe
theorem noiseTellsUpto_row_tie : Rows.noiseTellsUptoRow.laidByTextAt .later Tryz.pinned [.data, .data, .data] true :=
  OpenClaim.laidByTextAt_later rfl rfl tie noOwnUnsafe
end Go.Proofs.YtkdpblbhcfhagaaGreatDoor
