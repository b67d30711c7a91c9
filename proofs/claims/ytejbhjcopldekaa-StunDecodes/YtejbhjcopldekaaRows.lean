/-
  No cell of these rows narrows 'for every input' (looked for: loops, veiled, ifaces, maps, wideKeys, modest, calm, conditions, laid).
  DERIVED. THE GIVEN ROWS OF THIS SEAT. 6 by the template 'for every input the law returns true; each argument reads behind the call as it read before'; 0 by the template 'total and deterministic' (their statements: YtejbhjcopldekaaTotals.lean).
  GIVEN WITH THE SEED: the statements are not yours to turn. If you find one false, say at which input.
  Laid BY PROGRAM, IN A SANDBOX (cutbox-rows.mjs): the forced cells as the released guide's own fill.sh prints them over the translation 457190bf77c0159a… (all of the seat's roots in one cut). By AI agents, Wed Nov 11 2026. No macro, syntax, notation, axiom, sorry.
-/
import Derived.Test.YtejbhjcopldekaaChecked
import GoSem.Claim
import GoSem.ClaimJoined
import GoSem.ClaimMapViews
import Derived.JoinedTies
import Derived.KernelRfl
namespace Go.Proofs.Ytejbhjcopldekaa
/- THE CELL 'sum', in the pinned program and in every row, IS THE sha256 OF THE DUMP (.gsa) THAT YtejbhjcopldekaaProg.lean LOADS. Nothing in Lean hashes anything: it is a label: what it is worth is what the hold of that sum in a sandbox is worth. -/
noncomputable def Try.pinned : Pinned := { name := "ytejbhjcopldekaa", sum := "457190bf77c0159a77da30bc02b60eb2f4b59dd699effc21abe0370080e0d15e", checked := Try.checked }
namespace Rows
def none {H : Type} : Left H := { results := [], args := [] }

/-- 'hatchwaylaw12.StunEncodes': WHATEVER THE INPUT: true; the input reads as it did. -/
def stunEncodesSpec : ChangeSpec := { name := "stunEncodes", fn := fun _ => fun
  | [d] => { results := [.lit (.bool true)], args := [d] }
  | _ => none }
def stunEncodesRow : OpenClaim := { program := "ytejbhjcopldekaa", sum := "457190bf77c0159a77da30bc02b60eb2f4b59dd699effc21abe0370080e0d15e", func := "hatchway/hatchwaylaw12.StunEncodes", spec := "stunEncodes", unfollowed := true, recurses := true, apart := false }
def StunEncodesSaid : Prop := stunEncodesRow.holds Try.pinned (OpenSpec.ofChange stunEncodesSpec)

/-- ITS FALSE NEIGHBOUR: 'it returns false'. Refute it at one input. -/
def stunEncodesWrong : ChangeSpec := { name := "stunEncodes", fn := fun _ => fun
  | [d] => { results := [.lit (.bool false)], args := [d] }
  | _ => none }
def StunEncodesWrongFalsely : Prop := stunEncodesRow.holds Try.pinned (OpenSpec.ofChange stunEncodesWrong)

/-- 'hatchwaylaw12.StunDecodes': WHATEVER THE INPUT: true; the input reads as it did. -/
def stunDecodesSpec : ChangeSpec := { name := "stunDecodes", fn := fun _ => fun
  | [d] => { results := [.lit (.bool true)], args := [d] }
  | _ => none }
def stunDecodesRow : OpenClaim := { program := "ytejbhjcopldekaa", sum := "457190bf77c0159a77da30bc02b60eb2f4b59dd699effc21abe0370080e0d15e", func := "hatchway/hatchwaylaw12.StunDecodes", spec := "stunDecodes", unfollowed := true, recurses := true, apart := false }
def StunDecodesSaid : Prop := stunDecodesRow.holds Try.pinned (OpenSpec.ofChange stunDecodesSpec)

/-- ITS FALSE NEIGHBOUR: 'it returns false'. Refute it at one input. -/
def stunDecodesWrong : ChangeSpec := { name := "stunDecodes", fn := fun _ => fun
  | [d] => { results := [.lit (.bool false)], args := [d] }
  | _ => none }
def StunDecodesWrongFalsely : Prop := stunDecodesRow.holds Try.pinned (OpenSpec.ofChange stunDecodesWrong)

/-- 'hatchwaylaw12.StunBack': WHATEVER THE INPUT: true; the input reads as it did. -/
def stunBackSpec : ChangeSpec := { name := "stunBack", fn := fun _ => fun
  | [d] => { results := [.lit (.bool true)], args := [d] }
  | _ => none }
def stunBackRow : OpenClaim := { program := "ytejbhjcopldekaa", sum := "457190bf77c0159a77da30bc02b60eb2f4b59dd699effc21abe0370080e0d15e", func := "hatchway/hatchwaylaw12.StunBack", spec := "stunBack", unfollowed := true, recurses := true, apart := false }
def StunBackSaid : Prop := stunBackRow.holds Try.pinned (OpenSpec.ofChange stunBackSpec)

/-- ITS FALSE NEIGHBOUR: 'it returns false'. Refute it at one input. -/
def stunBackWrong : ChangeSpec := { name := "stunBack", fn := fun _ => fun
  | [d] => { results := [.lit (.bool false)], args := [d] }
  | _ => none }
def StunBackWrongFalsely : Prop := stunBackRow.holds Try.pinned (OpenSpec.ofChange stunBackWrong)

/-- 'hatchwaylaw12.StunLast': WHATEVER THE INPUT: true; the input reads as it did. -/
def stunLastSpec : ChangeSpec := { name := "stunLast", fn := fun _ => fun
  | [d1, d2, d3, d4] => { results := [.lit (.bool true)], args := [d1, d2, d3, d4] }
  | _ => none }
def stunLastRow : OpenClaim := { program := "ytejbhjcopldekaa", sum := "457190bf77c0159a77da30bc02b60eb2f4b59dd699effc21abe0370080e0d15e", func := "hatchway/hatchwaylaw12.StunLast", spec := "stunLast", unfollowed := true, recurses := true, apart := false }
def StunLastSaid : Prop := stunLastRow.holds Try.pinned (OpenSpec.ofChange stunLastSpec)

/-- ITS FALSE NEIGHBOUR: 'it returns false'. Refute it at one input. -/
def stunLastWrong : ChangeSpec := { name := "stunLast", fn := fun _ => fun
  | [d1, d2, d3, d4] => { results := [.lit (.bool false)], args := [d1, d2, d3, d4] }
  | _ => none }
def StunLastWrongFalsely : Prop := stunLastRow.holds Try.pinned (OpenSpec.ofChange stunLastWrong)

/-- 'hatchwaylaw12.StunSeen': WHATEVER THE INPUT: true; the input reads as it did. -/
def stunSeenSpec : ChangeSpec := { name := "stunSeen", fn := fun _ => fun
  | [d1, d2] => { results := [.lit (.bool true)], args := [d1, d2] }
  | _ => none }
def stunSeenRow : OpenClaim := { program := "ytejbhjcopldekaa", sum := "457190bf77c0159a77da30bc02b60eb2f4b59dd699effc21abe0370080e0d15e", func := "hatchway/hatchwaylaw12.StunSeen", spec := "stunSeen", unfollowed := true, recurses := true, apart := false }
def StunSeenSaid : Prop := stunSeenRow.holds Try.pinned (OpenSpec.ofChange stunSeenSpec)

/-- ITS FALSE NEIGHBOUR: 'it returns false'. Refute it at one input. -/
def stunSeenWrong : ChangeSpec := { name := "stunSeen", fn := fun _ => fun
  | [d1, d2] => { results := [.lit (.bool false)], args := [d1, d2] }
  | _ => none }
def StunSeenWrongFalsely : Prop := stunSeenRow.holds Try.pinned (OpenSpec.ofChange stunSeenWrong)

/-- 'hatchwaylaw12.StunTypes': WHATEVER THE INPUT: true; the input reads as it did. -/
def stunTypesSpec : ChangeSpec := { name := "stunTypes", fn := fun _ => fun
  | [d1, d2] => { results := [.lit (.bool true)], args := [d1, d2] }
  | _ => none }
def stunTypesRow : OpenClaim := { program := "ytejbhjcopldekaa", sum := "457190bf77c0159a77da30bc02b60eb2f4b59dd699effc21abe0370080e0d15e", func := "hatchway/hatchwaylaw12.StunTypes", spec := "stunTypes", unfollowed := true, recurses := true, apart := false }
def StunTypesSaid : Prop := stunTypesRow.holds Try.pinned (OpenSpec.ofChange stunTypesSpec)

/-- ITS FALSE NEIGHBOUR: 'it returns false'. Refute it at one input. -/
def stunTypesWrong : ChangeSpec := { name := "stunTypes", fn := fun _ => fun
  | [d1, d2] => { results := [.lit (.bool false)], args := [d1, d2] }
  | _ => none }
def StunTypesWrongFalsely : Prop := stunTypesRow.holds Try.pinned (OpenSpec.ofChange stunTypesWrong)

/- THE SECOND FORM. 'bulk': how many values and letters a reading holds, each counted each time it is reached (what is shared counts as often as it is met; a slice's spare places count too). A statement '..UptoSaid' is the law's where the arguments, and the package variables that the reading takes, are together of bulk at most 1048576: NARROWER than '..Said'. Prove '..Said' where nothing that the law and all that it calls make is longer than what came in: it says more and counts as full. Else prove '..UptoSaid'. A law counts once. -/
mutual
def uptoBulk {H : Type} : DataW H → Nat
  | .lit (.string bytes) => bytes.length + 1
  | .lit _ => 1
  | .nil => 1
  | .ptr d => uptoBulk d + 1
  | .slice elems spare => uptoBulkAll elems + uptoBulkAll spare + 1
  | .agg parts => uptoBulkAll parts + 1
  | .iface _ d => uptoBulk d + 1
  | .map entries => uptoBulkEntries entries + 1
  | .held _ => 1
def uptoBulkAll {H : Type} : List (DataW H) → Nat
  | [] => 0
  | d :: r => uptoBulk d + uptoBulkAll r
def uptoBulkEntries {H : Type} : List (Lit × DataW H) → Nat
  | [] => 0
  | x :: r => uptoBulkEntry x + uptoBulkEntries r
def uptoBulkEntry {H : Type} : Lit × DataW H → Nat
  | (.string bytes, d) => bytes.length + uptoBulk d + 1
  | (_, d) => uptoBulk d + 1
 end
def uptoSmall : (H : Type) → List (DataW H) → Bool := fun _ ds => decide (uptoBulkAll ds ≤ 1048576)
def OpenSpec.upto (s : _root_.Go.ChangeSpec) : _root_.Go.OpenSpec := { _root_.Go.OpenSpec.ofChange s with cond := some uptoSmall }

/-- 'hatchwaylaw12.StunEncodes', WHERE WHAT IT READS IS OF BULK AT MOST 1048576: true; the input reads as it did. -/
def stunEncodesUptoRow : OpenClaim := { program := "ytejbhjcopldekaa", sum := "457190bf77c0159a77da30bc02b60eb2f4b59dd699effc21abe0370080e0d15e", func := "hatchway/hatchwaylaw12.StunEncodes", spec := "stunEncodes", unfollowed := true, recurses := true, apart := false, narrowed := true }
def StunEncodesUptoSaid : Prop := stunEncodesUptoRow.holds Try.pinned (OpenSpec.upto stunEncodesSpec)

/-- 'hatchwaylaw12.StunDecodes', WHERE WHAT IT READS IS OF BULK AT MOST 1048576: true; the input reads as it did. -/
def stunDecodesUptoRow : OpenClaim := { program := "ytejbhjcopldekaa", sum := "457190bf77c0159a77da30bc02b60eb2f4b59dd699effc21abe0370080e0d15e", func := "hatchway/hatchwaylaw12.StunDecodes", spec := "stunDecodes", unfollowed := true, recurses := true, apart := false, narrowed := true }
def StunDecodesUptoSaid : Prop := stunDecodesUptoRow.holds Try.pinned (OpenSpec.upto stunDecodesSpec)

/-- 'hatchwaylaw12.StunBack', WHERE WHAT IT READS IS OF BULK AT MOST 1048576: true; the input reads as it did. -/
def stunBackUptoRow : OpenClaim := { program := "ytejbhjcopldekaa", sum := "457190bf77c0159a77da30bc02b60eb2f4b59dd699effc21abe0370080e0d15e", func := "hatchway/hatchwaylaw12.StunBack", spec := "stunBack", unfollowed := true, recurses := true, apart := false, narrowed := true }
def StunBackUptoSaid : Prop := stunBackUptoRow.holds Try.pinned (OpenSpec.upto stunBackSpec)

/-- 'hatchwaylaw12.StunLast', WHERE WHAT IT READS IS OF BULK AT MOST 1048576: true; the input reads as it did. -/
def stunLastUptoRow : OpenClaim := { program := "ytejbhjcopldekaa", sum := "457190bf77c0159a77da30bc02b60eb2f4b59dd699effc21abe0370080e0d15e", func := "hatchway/hatchwaylaw12.StunLast", spec := "stunLast", unfollowed := true, recurses := true, apart := false, narrowed := true }
def StunLastUptoSaid : Prop := stunLastUptoRow.holds Try.pinned (OpenSpec.upto stunLastSpec)

/-- 'hatchwaylaw12.StunSeen', WHERE WHAT IT READS IS OF BULK AT MOST 1048576: true; the input reads as it did. -/
def stunSeenUptoRow : OpenClaim := { program := "ytejbhjcopldekaa", sum := "457190bf77c0159a77da30bc02b60eb2f4b59dd699effc21abe0370080e0d15e", func := "hatchway/hatchwaylaw12.StunSeen", spec := "stunSeen", unfollowed := true, recurses := true, apart := false, narrowed := true }
def StunSeenUptoSaid : Prop := stunSeenUptoRow.holds Try.pinned (OpenSpec.upto stunSeenSpec)

/-- 'hatchwaylaw12.StunTypes', WHERE WHAT IT READS IS OF BULK AT MOST 1048576: true; the input reads as it did. -/
def stunTypesUptoRow : OpenClaim := { program := "ytejbhjcopldekaa", sum := "457190bf77c0159a77da30bc02b60eb2f4b59dd699effc21abe0370080e0d15e", func := "hatchway/hatchwaylaw12.StunTypes", spec := "stunTypes", unfollowed := true, recurses := true, apart := false, narrowed := true }
def StunTypesUptoSaid : Prop := stunTypesUptoRow.holds Try.pinned (OpenSpec.upto stunTypesSpec)

end Rows
end Go.Proofs.Ytejbhjcopldekaa
