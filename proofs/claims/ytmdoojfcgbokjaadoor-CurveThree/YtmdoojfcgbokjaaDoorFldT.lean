/- What the program's text lays in its table (field), out of the condition of a row that lists it. -/
import Derived.Test.YtmdoojfcgbokjaaDoorLaidT
import Derived.Test.YtmdoojfcgbokjaaDoorFldB
namespace Go.Proofs.YtmdoojfcgbokjaaDoor
set_option linter.unusedVariables false
open Go.ChangeShapes Go.WideShapes Go.ChangeAt Go.RowKit

def twZ : List Int := twP.map fun x : Nat => (x : Int)
/-- The table as data: what the rows of this seat list. -/
def fieldLaid : List (String × DataW Unit) := [("hatchway/field.twiceP", Rows.laid_hatchway_field_twiceP)]
theorem gTw : Tryd.prog.globalNamed "hatchway/field.twiceP" = some 0 := by kernel_rfl
theorem tTw : (Tryd.prog.globals[0]?).map (·.type) = some 39 := by kernel_rfl
theorem laid_tw : (Rows.laid_hatchway_field_twiceP : DataW Unit) = .agg (twZ.map fun z => .lit (.int .u64 z)) := by kernel_rfl
theorem ftab_of_laid {W : World} (h : laidMetH Tryd.prog fieldLaid W) : FTab W := by
  unfold fieldLaid at h
  rw [MakeChecks.laidMetH_plain _ _ _ (by kernel_rfl)] at h
  obtain ⟨ps, ⟨g0, t0, cs0, f0, p0, q0, hg0, ht0, hv0, hd0, _, _⟩, _, _⟩ := h
  obtain rfl := Option.some.inj (gTw.symm.trans hg0)
  obtain rfl := Option.some.inj (tTw.symm.trans ht0)
  obtain ⟨t, fr, h⟩ := laid_row gTw hv0
  have e := laid_ints Tryd.underlying39 Tryd.underlying38 (by kernel_rfl) (by kernel_rfl) hd0 twZ laid_tw
  have e2 : cs0 = (twP.map nf).toArray := by
    rw [← Array.toArray_toList (xs := cs0), e, twZ, List.map_map]
    rfl
  rw [e2] at h
  exact ⟨t, fr, h⟩
/-- The door's own heap meets the condition. -/
theorem fdoor_met (os : Os) (args : Array Value) : laidMetH Tryd.prog fieldLaid ((World.doorLaid Tryd.prog 400 os).forCall (fun _ _ => 0) ⟨#[], args, []⟩).memory :=
  laidMetH_of_parts3 (fuel := 8) (laidMet_of_run' 8 (by kernel_rfl) (by kernel_rfl)) (by kernel_rfl) (by kernel_rfl)
end Go.Proofs.YtmdoojfcgbokjaaDoor
