/-
  NARROWER THAN 'FOR EVERY INPUT', by the rows' own cells (each row's printed sentence says how): FieldTells: laid · FieldLong: laid · FieldRing: laid · FieldSmall: laid · FieldSquares: laid · FieldTurned: laid.
  DERIVED. THE GIVEN ROWS OF THIS SEAT. 6 by the template 'for every input the law returns true; each argument reads behind the call as it read before'; 0 by the template 'total and deterministic' (their statements: YtgggdcliepgahaaDoorTotals.lean).
  GIVEN WITH THE SEED: the statements are not yours to turn. If you find one false, say at which input.
  Laid BY PROGRAM, IN A SANDBOX (cutbox-rows.mjs): the forced cells as the released guide's own fill.sh prints them over the translation 6f43e13da5c06c3c… (all of the seat's roots in one cut). By AI agents, Wed Nov 11 2026. No macro, syntax, notation, axiom, sorry.
-/
import Derived.Test.YtgggdcliepgahaaDoorChecked
import GoSem.Claim
import GoSem.ClaimJoined
import GoSem.ClaimMapViews
import Derived.JoinedTies
import Derived.KernelRfl
namespace Go.Proofs.YtgggdcliepgahaaDoor
/- THE CELL 'sum', in the pinned program and in every row, IS THE sha256 OF THE DUMP (.gsa) THAT YtgggdcliepgahaaDoorProg.lean LOADS. Nothing in Lean hashes anything: it is a label: what it is worth is what the hold of that sum in a sandbox is worth. -/
noncomputable def Tryd.pinned : Pinned := { name := "ytgggdcliepgahaadoor", sum := "6f43e13da5c06c3c1f9367689eb754bf551fa2c65e063537c4bb7d0796dcd01c", checked := Tryd.checked }
namespace Rows
def none {H : Type} : Left H := { results := [], args := [] }

/- WHAT THE LISTED PACKAGE-LEVEL VARIABLES READ AS WHEN THE CALL BEGINS. Each datum BY PROGRAM (the guide's laid-datum.mjs) off the statement by which the dump's own 'gosem.cut.vars' lays the variable. In a bare row this is a premise. The card (YtgggdcliepgahaaDoorCards.lean) ties it to the program's text. -/
def laid_hatchway_field_twiceP {H : Type} : DataW H := .agg [.lit (.int .u64 4503599627370458), .lit (.int .u64 4503599627370494), .lit (.int .u64 4503599627370494), .lit (.int .u64 4503599627370494), .lit (.int .u64 4503599627370494)]

/-- 'hatchwaylaw07.FieldTells': WHATEVER THE INPUT: true; the input reads as it did. -/
def fieldTellsSpec : ChangeSpec := { name := "fieldTells", fn := fun _ => fun
  | [d1, d2] => { results := [.lit (.bool true)], args := [d1, d2] }
  | _ => none }
def fieldTellsRow : OpenClaim := { program := "ytgggdcliepgahaadoor", sum := "6f43e13da5c06c3c1f9367689eb754bf551fa2c65e063537c4bb7d0796dcd01c", func := "hatchway/hatchwaylaw07.FieldTells", spec := "fieldTells", inPlace := ["math/bits.Add64"], named := ["hatchway/field.twiceP"], apart := false, laid := [("hatchway/field.twiceP", laid_hatchway_field_twiceP)] }
def FieldTellsSaid : Prop := fieldTellsRow.holds Tryd.pinned (OpenSpec.ofChange fieldTellsSpec)

/-- ITS FALSE NEIGHBOUR: 'it returns false'. Refute it at one input. -/
def fieldTellsWrong : ChangeSpec := { name := "fieldTells", fn := fun _ => fun
  | [d1, d2] => { results := [.lit (.bool false)], args := [d1, d2] }
  | _ => none }
def FieldTellsWrongFalsely : Prop := fieldTellsRow.holds Tryd.pinned (OpenSpec.ofChange fieldTellsWrong)

/-- 'hatchwaylaw07.FieldLong': WHATEVER THE INPUT: true; the input reads as it did. -/
def fieldLongSpec : ChangeSpec := { name := "fieldLong", fn := fun _ => fun
  | [d1, d2] => { results := [.lit (.bool true)], args := [d1, d2] }
  | _ => none }
def fieldLongRow : OpenClaim := { program := "ytgggdcliepgahaadoor", sum := "6f43e13da5c06c3c1f9367689eb754bf551fa2c65e063537c4bb7d0796dcd01c", func := "hatchway/hatchwaylaw07.FieldLong", spec := "fieldLong", inPlace := ["math/bits.Add64"], named := ["hatchway/field.twiceP"], apart := false, laid := [("hatchway/field.twiceP", laid_hatchway_field_twiceP)] }
def FieldLongSaid : Prop := fieldLongRow.holds Tryd.pinned (OpenSpec.ofChange fieldLongSpec)

/-- ITS FALSE NEIGHBOUR: 'it returns false'. Refute it at one input. -/
def fieldLongWrong : ChangeSpec := { name := "fieldLong", fn := fun _ => fun
  | [d1, d2] => { results := [.lit (.bool false)], args := [d1, d2] }
  | _ => none }
def FieldLongWrongFalsely : Prop := fieldLongRow.holds Tryd.pinned (OpenSpec.ofChange fieldLongWrong)

/-- 'hatchwaylaw07.FieldRing': WHATEVER THE INPUT: true; the input reads as it did. -/
def fieldRingSpec : ChangeSpec := { name := "fieldRing", fn := fun _ => fun
  | [d1, d2, d3] => { results := [.lit (.bool true)], args := [d1, d2, d3] }
  | _ => none }
def fieldRingRow : OpenClaim := { program := "ytgggdcliepgahaadoor", sum := "6f43e13da5c06c3c1f9367689eb754bf551fa2c65e063537c4bb7d0796dcd01c", func := "hatchway/hatchwaylaw07.FieldRing", spec := "fieldRing", inPlace := ["math/bits.Add64"], named := ["hatchway/field.twiceP"], apart := false, laid := [("hatchway/field.twiceP", laid_hatchway_field_twiceP)] }
def FieldRingSaid : Prop := fieldRingRow.holds Tryd.pinned (OpenSpec.ofChange fieldRingSpec)

/-- ITS FALSE NEIGHBOUR: 'it returns false'. Refute it at one input. -/
def fieldRingWrong : ChangeSpec := { name := "fieldRing", fn := fun _ => fun
  | [d1, d2, d3] => { results := [.lit (.bool false)], args := [d1, d2, d3] }
  | _ => none }
def FieldRingWrongFalsely : Prop := fieldRingRow.holds Tryd.pinned (OpenSpec.ofChange fieldRingWrong)

/-- 'hatchwaylaw07.FieldSmall': WHATEVER THE INPUT: true; the input reads as it did. -/
def fieldSmallSpec : ChangeSpec := { name := "fieldSmall", fn := fun _ => fun
  | [d1, d2] => { results := [.lit (.bool true)], args := [d1, d2] }
  | _ => none }
def fieldSmallRow : OpenClaim := { program := "ytgggdcliepgahaadoor", sum := "6f43e13da5c06c3c1f9367689eb754bf551fa2c65e063537c4bb7d0796dcd01c", func := "hatchway/hatchwaylaw07.FieldSmall", spec := "fieldSmall", inPlace := ["math/bits.Add64"], named := ["hatchway/field.twiceP"], apart := false, laid := [("hatchway/field.twiceP", laid_hatchway_field_twiceP)] }
def FieldSmallSaid : Prop := fieldSmallRow.holds Tryd.pinned (OpenSpec.ofChange fieldSmallSpec)

/-- ITS FALSE NEIGHBOUR: 'it returns false'. Refute it at one input. -/
def fieldSmallWrong : ChangeSpec := { name := "fieldSmall", fn := fun _ => fun
  | [d1, d2] => { results := [.lit (.bool false)], args := [d1, d2] }
  | _ => none }
def FieldSmallWrongFalsely : Prop := fieldSmallRow.holds Tryd.pinned (OpenSpec.ofChange fieldSmallWrong)

/-- 'hatchwaylaw07.FieldSquares': WHATEVER THE INPUT: true; the input reads as it did. -/
def fieldSquaresSpec : ChangeSpec := { name := "fieldSquares", fn := fun _ => fun
  | [d1, d2] => { results := [.lit (.bool true)], args := [d1, d2] }
  | _ => none }
def fieldSquaresRow : OpenClaim := { program := "ytgggdcliepgahaadoor", sum := "6f43e13da5c06c3c1f9367689eb754bf551fa2c65e063537c4bb7d0796dcd01c", func := "hatchway/hatchwaylaw07.FieldSquares", spec := "fieldSquares", inPlace := ["math/bits.Add64"], named := ["hatchway/field.twiceP"], apart := false, laid := [("hatchway/field.twiceP", laid_hatchway_field_twiceP)] }
def FieldSquaresSaid : Prop := fieldSquaresRow.holds Tryd.pinned (OpenSpec.ofChange fieldSquaresSpec)

/-- ITS FALSE NEIGHBOUR: 'it returns false'. Refute it at one input. -/
def fieldSquaresWrong : ChangeSpec := { name := "fieldSquares", fn := fun _ => fun
  | [d1, d2] => { results := [.lit (.bool false)], args := [d1, d2] }
  | _ => none }
def FieldSquaresWrongFalsely : Prop := fieldSquaresRow.holds Tryd.pinned (OpenSpec.ofChange fieldSquaresWrong)

/-- 'hatchwaylaw07.FieldTurned': WHATEVER THE INPUT: true; the input reads as it did. -/
def fieldTurnedSpec : ChangeSpec := { name := "fieldTurned", fn := fun _ => fun
  | [d1, d2] => { results := [.lit (.bool true)], args := [d1, d2] }
  | _ => none }
def fieldTurnedRow : OpenClaim := { program := "ytgggdcliepgahaadoor", sum := "6f43e13da5c06c3c1f9367689eb754bf551fa2c65e063537c4bb7d0796dcd01c", func := "hatchway/hatchwaylaw07.FieldTurned", spec := "fieldTurned", inPlace := ["math/bits.Add64"], named := ["hatchway/field.twiceP"], apart := false, laid := [("hatchway/field.twiceP", laid_hatchway_field_twiceP)] }
def FieldTurnedSaid : Prop := fieldTurnedRow.holds Tryd.pinned (OpenSpec.ofChange fieldTurnedSpec)

/-- ITS FALSE NEIGHBOUR: 'it returns false'. Refute it at one input. -/
def fieldTurnedWrong : ChangeSpec := { name := "fieldTurned", fn := fun _ => fun
  | [d1, d2] => { results := [.lit (.bool false)], args := [d1, d2] }
  | _ => none }
def FieldTurnedWrongFalsely : Prop := fieldTurnedRow.holds Tryd.pinned (OpenSpec.ofChange fieldTurnedWrong)

/- THE SECOND FORM. 'bulk': how many values and letters a reading holds, each counted each time it is reached (what is shared counts as often as it is met; a slice's spare places count too). A statement '..UptoSaid' is the law's where the arguments, and the package variables that the reading takes, are together of bulk at most 1048576: NARROWER than '..Said'. Prove '..Said' where nothing that the law and all that it calls make is longer than what came in: it says more and counts as full. Else prove '..UptoSaid'. A law counts once. -/
mutual
def uptoBulk {H : Type} : DataW H → Nat
  | .lit (.string bytes) => bytes.length + 1
  | .lit _ => 1
  | .nil => 1
  | .ptr d => uptoBulk d + 1
  | .slice elems spare => uptoBulkAll elems + uptoBulkAll spare + 1
  | .agg parts => uptoBulkAll parts + 1
  | .iface _ d => uptoBulk d + 1
  | .map entries => uptoBulkEntries entries + 1
  | .held _ => 1
def uptoBulkAll {H : Type} : List (DataW H) → Nat
  | [] => 0
  | d :: r => uptoBulk d + uptoBulkAll r
def uptoBulkEntries {H : Type} : List (Lit × DataW H) → Nat
  | [] => 0
  | x :: r => uptoBulkEntry x + uptoBulkEntries r
def uptoBulkEntry {H : Type} : Lit × DataW H → Nat
  | (.string bytes, d) => bytes.length + uptoBulk d + 1
  | (_, d) => uptoBulk d + 1
 end
def uptoSmall : (H : Type) → List (DataW H) → Bool := fun _ ds => decide (uptoBulkAll ds ≤ 1048576)
def OpenSpec.upto (s : _root_.Go.ChangeSpec) : _root_.Go.OpenSpec := { _root_.Go.OpenSpec.ofChange s with cond := some uptoSmall }

/-- 'hatchwaylaw07.FieldTells', WHERE WHAT IT READS IS OF BULK AT MOST 1048576: true; the input reads as it did. -/
def fieldTellsUptoRow : OpenClaim := { program := "ytgggdcliepgahaadoor", sum := "6f43e13da5c06c3c1f9367689eb754bf551fa2c65e063537c4bb7d0796dcd01c", func := "hatchway/hatchwaylaw07.FieldTells", spec := "fieldTells", inPlace := ["math/bits.Add64"], named := ["hatchway/field.twiceP"], apart := false, laid := [("hatchway/field.twiceP", laid_hatchway_field_twiceP)], narrowed := true }
def FieldTellsUptoSaid : Prop := fieldTellsUptoRow.holds Tryd.pinned (OpenSpec.upto fieldTellsSpec)

/-- 'hatchwaylaw07.FieldLong', WHERE WHAT IT READS IS OF BULK AT MOST 1048576: true; the input reads as it did. -/
def fieldLongUptoRow : OpenClaim := { program := "ytgggdcliepgahaadoor", sum := "6f43e13da5c06c3c1f9367689eb754bf551fa2c65e063537c4bb7d0796dcd01c", func := "hatchway/hatchwaylaw07.FieldLong", spec := "fieldLong", inPlace := ["math/bits.Add64"], named := ["hatchway/field.twiceP"], apart := false, laid := [("hatchway/field.twiceP", laid_hatchway_field_twiceP)], narrowed := true }
def FieldLongUptoSaid : Prop := fieldLongUptoRow.holds Tryd.pinned (OpenSpec.upto fieldLongSpec)

/-- 'hatchwaylaw07.FieldRing', WHERE WHAT IT READS IS OF BULK AT MOST 1048576: true; the input reads as it did. -/
def fieldRingUptoRow : OpenClaim := { program := "ytgggdcliepgahaadoor", sum := "6f43e13da5c06c3c1f9367689eb754bf551fa2c65e063537c4bb7d0796dcd01c", func := "hatchway/hatchwaylaw07.FieldRing", spec := "fieldRing", inPlace := ["math/bits.Add64"], named := ["hatchway/field.twiceP"], apart := false, laid := [("hatchway/field.twiceP", laid_hatchway_field_twiceP)], narrowed := true }
def FieldRingUptoSaid : Prop := fieldRingUptoRow.holds Tryd.pinned (OpenSpec.upto fieldRingSpec)

/-- 'hatchwaylaw07.FieldSmall', WHERE WHAT IT READS IS OF BULK AT MOST 1048576: true; the input reads as it did. -/
def fieldSmallUptoRow : OpenClaim := { program := "ytgggdcliepgahaadoor", sum := "6f43e13da5c06c3c1f9367689eb754bf551fa2c65e063537c4bb7d0796dcd01c", func := "hatchway/hatchwaylaw07.FieldSmall", spec := "fieldSmall", inPlace := ["math/bits.Add64"], named := ["hatchway/field.twiceP"], apart := false, laid := [("hatchway/field.twiceP", laid_hatchway_field_twiceP)], narrowed := true }
def FieldSmallUptoSaid : Prop := fieldSmallUptoRow.holds Tryd.pinned (OpenSpec.upto fieldSmallSpec)

/-- 'hatchwaylaw07.FieldSquares', WHERE WHAT IT READS IS OF BULK AT MOST 1048576: true; the input reads as it did. -/
def fieldSquaresUptoRow : OpenClaim := { program := "ytgggdcliepgahaadoor", sum := "6f43e13da5c06c3c1f9367689eb754bf551fa2c65e063537c4bb7d0796dcd01c", func := "hatchway/hatchwaylaw07.FieldSquares", spec := "fieldSquares", inPlace := ["math/bits.Add64"], named := ["hatchway/field.twiceP"], apart := false, laid := [("hatchway/field.twiceP", laid_hatchway_field_twiceP)], narrowed := true }
def FieldSquaresUptoSaid : Prop := fieldSquaresUptoRow.holds Tryd.pinned (OpenSpec.upto fieldSquaresSpec)

/-- 'hatchwaylaw07.FieldTurned', WHERE WHAT IT READS IS OF BULK AT MOST 1048576: true; the input reads as it did. -/
def fieldTurnedUptoRow : OpenClaim := { program := "ytgggdcliepgahaadoor", sum := "6f43e13da5c06c3c1f9367689eb754bf551fa2c65e063537c4bb7d0796dcd01c", func := "hatchway/hatchwaylaw07.FieldTurned", spec := "fieldTurned", inPlace := ["math/bits.Add64"], named := ["hatchway/field.twiceP"], apart := false, laid := [("hatchway/field.twiceP", laid_hatchway_field_twiceP)], narrowed := true }
def FieldTurnedUptoSaid : Prop := fieldTurnedUptoRow.holds Tryd.pinned (OpenSpec.upto fieldTurnedSpec)

end Rows
end Go.Proofs.YtgggdcliepgahaaDoor
