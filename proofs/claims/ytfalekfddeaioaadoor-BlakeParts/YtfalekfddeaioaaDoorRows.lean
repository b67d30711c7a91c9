/-
  NARROWER THAN 'FOR EVERY INPUT', by the rows' own cells (each row's printed sentence says how): BlakeTells: laid · BlakeParts: laid · BlakeEdges: laid · BlakeApart: laid · BlakeBytes: laid.
  DERIVED. THE GIVEN ROWS OF THIS SEAT. 5 by the template 'for every input the law returns true; each argument reads behind the call as it read before'; 0 by the template 'total and deterministic' (their statements: YtfalekfddeaioaaDoorTotals.lean).
  GIVEN WITH THE SEED: the statements are not yours to turn. If you find one false, say at which input.
  Laid BY PROGRAM, IN A SANDBOX (cutbox-rows.mjs): the forced cells as the released guide's own fill.sh prints them over the translation 8033a9ad48b4f3c4… (all of the seat's roots in one cut). By AI agents, Wed Nov 11 2026. No macro, syntax, notation, axiom, sorry.
-/
import Derived.Test.YtfalekfddeaioaaDoorChecked
import GoSem.Claim
import GoSem.ClaimJoined
import GoSem.ClaimMapViews
import Derived.JoinedTies
import Derived.KernelRfl
namespace Go.Proofs.YtfalekfddeaioaaDoor
/- THE CELL 'sum', in the pinned program and in every row, IS THE sha256 OF THE DUMP (.gsa) THAT YtfalekfddeaioaaDoorProg.lean LOADS. Nothing in Lean hashes anything: it is a label: what it is worth is what the hold of that sum in a sandbox is worth. -/
noncomputable def Tryd.pinned : Pinned := { name := "ytfalekfddeaioaadoor", sum := "8033a9ad48b4f3c47de8737242dedff6c072aa39ee47fa77cd31dc23beea0fa7", checked := Tryd.checked }
namespace Rows
def none {H : Type} : Left H := { results := [], args := [] }

/- WHAT THE LISTED PACKAGE-LEVEL VARIABLES READ AS WHEN THE CALL BEGINS. Each datum BY PROGRAM (the guide's laid-datum.mjs) off the statement by which the dump's own 'gosem.cut.vars' lays the variable. In a bare row this is a premise. The card (YtfalekfddeaioaaDoorCards.lean) ties it to the program's text. -/
def laid_hatchway_blake_iv {H : Type} : DataW H := .agg [.lit (.int .u32 1779033703), .lit (.int .u32 3144134277), .lit (.int .u32 1013904242), .lit (.int .u32 2773480762), .lit (.int .u32 1359893119), .lit (.int .u32 2600822924), .lit (.int .u32 528734635), .lit (.int .u32 1541459225)]
def laid_hatchway_blake_rows {H : Type} : DataW H := .agg [.agg [.lit (.int .u8 0), .lit (.int .u8 1), .lit (.int .u8 2), .lit (.int .u8 3), .lit (.int .u8 4), .lit (.int .u8 5), .lit (.int .u8 6), .lit (.int .u8 7), .lit (.int .u8 8), .lit (.int .u8 9), .lit (.int .u8 10), .lit (.int .u8 11), .lit (.int .u8 12), .lit (.int .u8 13), .lit (.int .u8 14), .lit (.int .u8 15)], .agg [.lit (.int .u8 14), .lit (.int .u8 10), .lit (.int .u8 4), .lit (.int .u8 8), .lit (.int .u8 9), .lit (.int .u8 15), .lit (.int .u8 13), .lit (.int .u8 6), .lit (.int .u8 1), .lit (.int .u8 12), .lit (.int .u8 0), .lit (.int .u8 2), .lit (.int .u8 11), .lit (.int .u8 7), .lit (.int .u8 5), .lit (.int .u8 3)], .agg [.lit (.int .u8 11), .lit (.int .u8 8), .lit (.int .u8 12), .lit (.int .u8 0), .lit (.int .u8 5), .lit (.int .u8 2), .lit (.int .u8 15), .lit (.int .u8 13), .lit (.int .u8 10), .lit (.int .u8 14), .lit (.int .u8 3), .lit (.int .u8 6), .lit (.int .u8 7), .lit (.int .u8 1), .lit (.int .u8 9), .lit (.int .u8 4)], .agg [.lit (.int .u8 7), .lit (.int .u8 9), .lit (.int .u8 3), .lit (.int .u8 1), .lit (.int .u8 13), .lit (.int .u8 12), .lit (.int .u8 11), .lit (.int .u8 14), .lit (.int .u8 2), .lit (.int .u8 6), .lit (.int .u8 5), .lit (.int .u8 10), .lit (.int .u8 4), .lit (.int .u8 0), .lit (.int .u8 15), .lit (.int .u8 8)], .agg [.lit (.int .u8 9), .lit (.int .u8 0), .lit (.int .u8 5), .lit (.int .u8 7), .lit (.int .u8 2), .lit (.int .u8 4), .lit (.int .u8 10), .lit (.int .u8 15), .lit (.int .u8 14), .lit (.int .u8 1), .lit (.int .u8 11), .lit (.int .u8 12), .lit (.int .u8 6), .lit (.int .u8 8), .lit (.int .u8 3), .lit (.int .u8 13)], .agg [.lit (.int .u8 2), .lit (.int .u8 12), .lit (.int .u8 6), .lit (.int .u8 10), .lit (.int .u8 0), .lit (.int .u8 11), .lit (.int .u8 8), .lit (.int .u8 3), .lit (.int .u8 4), .lit (.int .u8 13), .lit (.int .u8 7), .lit (.int .u8 5), .lit (.int .u8 15), .lit (.int .u8 14), .lit (.int .u8 1), .lit (.int .u8 9)], .agg [.lit (.int .u8 12), .lit (.int .u8 5), .lit (.int .u8 1), .lit (.int .u8 15), .lit (.int .u8 14), .lit (.int .u8 13), .lit (.int .u8 4), .lit (.int .u8 10), .lit (.int .u8 0), .lit (.int .u8 7), .lit (.int .u8 6), .lit (.int .u8 3), .lit (.int .u8 9), .lit (.int .u8 2), .lit (.int .u8 8), .lit (.int .u8 11)], .agg [.lit (.int .u8 13), .lit (.int .u8 11), .lit (.int .u8 7), .lit (.int .u8 14), .lit (.int .u8 12), .lit (.int .u8 1), .lit (.int .u8 3), .lit (.int .u8 9), .lit (.int .u8 5), .lit (.int .u8 0), .lit (.int .u8 15), .lit (.int .u8 4), .lit (.int .u8 8), .lit (.int .u8 6), .lit (.int .u8 2), .lit (.int .u8 10)], .agg [.lit (.int .u8 6), .lit (.int .u8 15), .lit (.int .u8 14), .lit (.int .u8 9), .lit (.int .u8 11), .lit (.int .u8 3), .lit (.int .u8 0), .lit (.int .u8 8), .lit (.int .u8 12), .lit (.int .u8 2), .lit (.int .u8 13), .lit (.int .u8 7), .lit (.int .u8 1), .lit (.int .u8 4), .lit (.int .u8 10), .lit (.int .u8 5)], .agg [.lit (.int .u8 10), .lit (.int .u8 2), .lit (.int .u8 8), .lit (.int .u8 4), .lit (.int .u8 7), .lit (.int .u8 6), .lit (.int .u8 1), .lit (.int .u8 5), .lit (.int .u8 15), .lit (.int .u8 11), .lit (.int .u8 9), .lit (.int .u8 14), .lit (.int .u8 3), .lit (.int .u8 12), .lit (.int .u8 13), .lit (.int .u8 0)]]

/-- 'hatchwaylaw05.BlakeTells': WHATEVER THE INPUT: true; the input reads as it did. -/
def blakeTellsSpec : ChangeSpec := { name := "blakeTells", fn := fun _ => fun
  | [d] => { results := [.lit (.bool true)], args := [d] }
  | _ => none }
def blakeTellsRow : OpenClaim := { program := "ytfalekfddeaioaadoor", sum := "8033a9ad48b4f3c47de8737242dedff6c072aa39ee47fa77cd31dc23beea0fa7", func := "hatchway/hatchwaylaw05.BlakeTells", spec := "blakeTells", named := ["hatchway/blake.iv", "hatchway/blake.rows"], apart := false, laid := [("hatchway/blake.iv", laid_hatchway_blake_iv), ("hatchway/blake.rows", laid_hatchway_blake_rows)] }
def BlakeTellsSaid : Prop := blakeTellsRow.holds Tryd.pinned (OpenSpec.ofChange blakeTellsSpec)

/-- ITS FALSE NEIGHBOUR: 'it returns false'. Refute it at one input. -/
def blakeTellsWrong : ChangeSpec := { name := "blakeTells", fn := fun _ => fun
  | [d] => { results := [.lit (.bool false)], args := [d] }
  | _ => none }
def BlakeTellsWrongFalsely : Prop := blakeTellsRow.holds Tryd.pinned (OpenSpec.ofChange blakeTellsWrong)

/-- 'hatchwaylaw05.BlakeParts': WHATEVER THE INPUT: true; the input reads as it did. -/
def blakePartsSpec : ChangeSpec := { name := "blakeParts", fn := fun _ => fun
  | [d] => { results := [.lit (.bool true)], args := [d] }
  | _ => none }
def blakePartsRow : OpenClaim := { program := "ytfalekfddeaioaadoor", sum := "8033a9ad48b4f3c47de8737242dedff6c072aa39ee47fa77cd31dc23beea0fa7", func := "hatchway/hatchwaylaw05.BlakeParts", spec := "blakeParts", named := ["hatchway/blake.iv", "hatchway/blake.rows"], apart := false, laid := [("hatchway/blake.iv", laid_hatchway_blake_iv), ("hatchway/blake.rows", laid_hatchway_blake_rows)] }
def BlakePartsSaid : Prop := blakePartsRow.holds Tryd.pinned (OpenSpec.ofChange blakePartsSpec)

/-- ITS FALSE NEIGHBOUR: 'it returns false'. Refute it at one input. -/
def blakePartsWrong : ChangeSpec := { name := "blakeParts", fn := fun _ => fun
  | [d] => { results := [.lit (.bool false)], args := [d] }
  | _ => none }
def BlakePartsWrongFalsely : Prop := blakePartsRow.holds Tryd.pinned (OpenSpec.ofChange blakePartsWrong)

/-- 'hatchwaylaw05.BlakeEdges': WHATEVER THE INPUT: true; the input reads as it did. -/
def blakeEdgesSpec : ChangeSpec := { name := "blakeEdges", fn := fun _ => fun
  | [d1, d2] => { results := [.lit (.bool true)], args := [d1, d2] }
  | _ => none }
def blakeEdgesRow : OpenClaim := { program := "ytfalekfddeaioaadoor", sum := "8033a9ad48b4f3c47de8737242dedff6c072aa39ee47fa77cd31dc23beea0fa7", func := "hatchway/hatchwaylaw05.BlakeEdges", spec := "blakeEdges", named := ["hatchway/blake.iv", "hatchway/blake.rows"], apart := false, laid := [("hatchway/blake.iv", laid_hatchway_blake_iv), ("hatchway/blake.rows", laid_hatchway_blake_rows)] }
def BlakeEdgesSaid : Prop := blakeEdgesRow.holds Tryd.pinned (OpenSpec.ofChange blakeEdgesSpec)

/-- ITS FALSE NEIGHBOUR: 'it returns false'. Refute it at one input. -/
def blakeEdgesWrong : ChangeSpec := { name := "blakeEdges", fn := fun _ => fun
  | [d1, d2] => { results := [.lit (.bool false)], args := [d1, d2] }
  | _ => none }
def BlakeEdgesWrongFalsely : Prop := blakeEdgesRow.holds Tryd.pinned (OpenSpec.ofChange blakeEdgesWrong)

/-- 'hatchwaylaw05.BlakeApart': WHATEVER THE INPUT: true; the input reads as it did. -/
def blakeApartSpec : ChangeSpec := { name := "blakeApart", fn := fun _ => fun
  | [d] => { results := [.lit (.bool true)], args := [d] }
  | _ => none }
def blakeApartRow : OpenClaim := { program := "ytfalekfddeaioaadoor", sum := "8033a9ad48b4f3c47de8737242dedff6c072aa39ee47fa77cd31dc23beea0fa7", func := "hatchway/hatchwaylaw05.BlakeApart", spec := "blakeApart", named := ["hatchway/blake.iv", "hatchway/blake.rows"], apart := false, laid := [("hatchway/blake.iv", laid_hatchway_blake_iv), ("hatchway/blake.rows", laid_hatchway_blake_rows)] }
def BlakeApartSaid : Prop := blakeApartRow.holds Tryd.pinned (OpenSpec.ofChange blakeApartSpec)

/-- ITS FALSE NEIGHBOUR: 'it returns false'. Refute it at one input. -/
def blakeApartWrong : ChangeSpec := { name := "blakeApart", fn := fun _ => fun
  | [d] => { results := [.lit (.bool false)], args := [d] }
  | _ => none }
def BlakeApartWrongFalsely : Prop := blakeApartRow.holds Tryd.pinned (OpenSpec.ofChange blakeApartWrong)

/-- 'hatchwaylaw05.BlakeBytes': WHATEVER THE INPUT: true; the input reads as it did. -/
def blakeBytesSpec : ChangeSpec := { name := "blakeBytes", fn := fun _ => fun
  | [d] => { results := [.lit (.bool true)], args := [d] }
  | _ => none }
def blakeBytesRow : OpenClaim := { program := "ytfalekfddeaioaadoor", sum := "8033a9ad48b4f3c47de8737242dedff6c072aa39ee47fa77cd31dc23beea0fa7", func := "hatchway/hatchwaylaw05.BlakeBytes", spec := "blakeBytes", named := ["hatchway/blake.iv", "hatchway/blake.rows"], apart := false, laid := [("hatchway/blake.iv", laid_hatchway_blake_iv), ("hatchway/blake.rows", laid_hatchway_blake_rows)] }
def BlakeBytesSaid : Prop := blakeBytesRow.holds Tryd.pinned (OpenSpec.ofChange blakeBytesSpec)

/-- ITS FALSE NEIGHBOUR: 'it returns false'. Refute it at one input. -/
def blakeBytesWrong : ChangeSpec := { name := "blakeBytes", fn := fun _ => fun
  | [d] => { results := [.lit (.bool false)], args := [d] }
  | _ => none }
def BlakeBytesWrongFalsely : Prop := blakeBytesRow.holds Tryd.pinned (OpenSpec.ofChange blakeBytesWrong)

/- THE SECOND FORM. 'bulk': how many values and letters a reading holds, each counted each time it is reached (what is shared counts as often as it is met; a slice's spare places count too). A statement '..UptoSaid' is the law's where the arguments, and the package variables that the reading takes, are together of bulk at most 1048576: NARROWER than '..Said'. Prove '..Said' where nothing that the law and all that it calls make is longer than what came in: it says more and counts as full. Else prove '..UptoSaid'. A law counts once. -/
mutual
def uptoBulk {H : Type} : DataW H → Nat
  | .lit (.string bytes) => bytes.length + 1
  | .lit _ => 1
  | .nil => 1
  | .ptr d => uptoBulk d + 1
  | .slice elems spare => uptoBulkAll elems + uptoBulkAll spare + 1
  | .agg parts => uptoBulkAll parts + 1
  | .iface _ d => uptoBulk d + 1
  | .map entries => uptoBulkEntries entries + 1
  | .held _ => 1
def uptoBulkAll {H : Type} : List (DataW H) → Nat
  | [] => 0
  | d :: r => uptoBulk d + uptoBulkAll r
def uptoBulkEntries {H : Type} : List (Lit × DataW H) → Nat
  | [] => 0
  | x :: r => uptoBulkEntry x + uptoBulkEntries r
def uptoBulkEntry {H : Type} : Lit × DataW H → Nat
  | (.string bytes, d) => bytes.length + uptoBulk d + 1
  | (_, d) => uptoBulk d + 1
 end
def uptoSmall : (H : Type) → List (DataW H) → Bool := fun _ ds => decide (uptoBulkAll ds ≤ 1048576)
def OpenSpec.upto (s : _root_.Go.ChangeSpec) : _root_.Go.OpenSpec := { _root_.Go.OpenSpec.ofChange s with cond := some uptoSmall }

/-- 'hatchwaylaw05.BlakeTells', WHERE WHAT IT READS IS OF BULK AT MOST 1048576: true; the input reads as it did. -/
def blakeTellsUptoRow : OpenClaim := { program := "ytfalekfddeaioaadoor", sum := "8033a9ad48b4f3c47de8737242dedff6c072aa39ee47fa77cd31dc23beea0fa7", func := "hatchway/hatchwaylaw05.BlakeTells", spec := "blakeTells", named := ["hatchway/blake.iv", "hatchway/blake.rows"], apart := false, laid := [("hatchway/blake.iv", laid_hatchway_blake_iv), ("hatchway/blake.rows", laid_hatchway_blake_rows)], narrowed := true }
def BlakeTellsUptoSaid : Prop := blakeTellsUptoRow.holds Tryd.pinned (OpenSpec.upto blakeTellsSpec)

/-- 'hatchwaylaw05.BlakeParts', WHERE WHAT IT READS IS OF BULK AT MOST 1048576: true; the input reads as it did. -/
def blakePartsUptoRow : OpenClaim := { program := "ytfalekfddeaioaadoor", sum := "8033a9ad48b4f3c47de8737242dedff6c072aa39ee47fa77cd31dc23beea0fa7", func := "hatchway/hatchwaylaw05.BlakeParts", spec := "blakeParts", named := ["hatchway/blake.iv", "hatchway/blake.rows"], apart := false, laid := [("hatchway/blake.iv", laid_hatchway_blake_iv), ("hatchway/blake.rows", laid_hatchway_blake_rows)], narrowed := true }
def BlakePartsUptoSaid : Prop := blakePartsUptoRow.holds Tryd.pinned (OpenSpec.upto blakePartsSpec)

/-- 'hatchwaylaw05.BlakeEdges', WHERE WHAT IT READS IS OF BULK AT MOST 1048576: true; the input reads as it did. -/
def blakeEdgesUptoRow : OpenClaim := { program := "ytfalekfddeaioaadoor", sum := "8033a9ad48b4f3c47de8737242dedff6c072aa39ee47fa77cd31dc23beea0fa7", func := "hatchway/hatchwaylaw05.BlakeEdges", spec := "blakeEdges", named := ["hatchway/blake.iv", "hatchway/blake.rows"], apart := false, laid := [("hatchway/blake.iv", laid_hatchway_blake_iv), ("hatchway/blake.rows", laid_hatchway_blake_rows)], narrowed := true }
def BlakeEdgesUptoSaid : Prop := blakeEdgesUptoRow.holds Tryd.pinned (OpenSpec.upto blakeEdgesSpec)

/-- 'hatchwaylaw05.BlakeApart', WHERE WHAT IT READS IS OF BULK AT MOST 1048576: true; the input reads as it did. -/
def blakeApartUptoRow : OpenClaim := { program := "ytfalekfddeaioaadoor", sum := "8033a9ad48b4f3c47de8737242dedff6c072aa39ee47fa77cd31dc23beea0fa7", func := "hatchway/hatchwaylaw05.BlakeApart", spec := "blakeApart", named := ["hatchway/blake.iv", "hatchway/blake.rows"], apart := false, laid := [("hatchway/blake.iv", laid_hatchway_blake_iv), ("hatchway/blake.rows", laid_hatchway_blake_rows)], narrowed := true }
def BlakeApartUptoSaid : Prop := blakeApartUptoRow.holds Tryd.pinned (OpenSpec.upto blakeApartSpec)

/-- 'hatchwaylaw05.BlakeBytes', WHERE WHAT IT READS IS OF BULK AT MOST 1048576: true; the input reads as it did. -/
def blakeBytesUptoRow : OpenClaim := { program := "ytfalekfddeaioaadoor", sum := "8033a9ad48b4f3c47de8737242dedff6c072aa39ee47fa77cd31dc23beea0fa7", func := "hatchway/hatchwaylaw05.BlakeBytes", spec := "blakeBytes", named := ["hatchway/blake.iv", "hatchway/blake.rows"], apart := false, laid := [("hatchway/blake.iv", laid_hatchway_blake_iv), ("hatchway/blake.rows", laid_hatchway_blake_rows)], narrowed := true }
def BlakeBytesUptoSaid : Prop := blakeBytesUptoRow.holds Tryd.pinned (OpenSpec.upto blakeBytesSpec)

end Rows
end Go.Proofs.YtfalekfddeaioaaDoor
