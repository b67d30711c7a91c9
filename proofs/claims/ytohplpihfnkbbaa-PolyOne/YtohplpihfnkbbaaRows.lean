/-
  No cell of these rows narrows 'for every input' (looked for: loops, veiled, ifaces, maps, wideKeys, modest, calm, conditions, laid).
  DERIVED. THE GIVEN ROWS OF THIS SEAT. 6 by the template 'for every input the law returns true; each argument reads behind the call as it read before'; 0 by the template 'total and deterministic' (their statements: YtohplpihfnkbbaaTotals.lean).
  GIVEN WITH THE SEED: the statements are not yours to turn. If you find one false, say at which input.
  Laid BY PROGRAM, IN A SANDBOX (cutbox-rows.mjs): the forced cells as the released guide's own fill.sh prints them over the translation e2331942ded9b0c9… (all of the seat's roots in one cut). By AI agents, Wed Nov 11 2026. No macro, syntax, notation, axiom, sorry.
-/
import Derived.Test.YtohplpihfnkbbaaChecked
import GoSem.Claim
import GoSem.ClaimJoined
import GoSem.ClaimMapViews
import Derived.JoinedTies
import Derived.KernelRfl
namespace Go.Proofs.Ytohplpihfnkbbaa
/- THE CELL 'sum', in the pinned program and in every row, IS THE sha256 OF THE DUMP (.gsa) THAT YtohplpihfnkbbaaProg.lean LOADS. Nothing in Lean hashes anything: it is a label: what it is worth is what the hold of that sum in a sandbox is worth. -/
noncomputable def Try.pinned : Pinned := { name := "ytohplpihfnkbbaa", sum := "e2331942ded9b0c9f7bca39600ee73256e68cbaa4996062fed25dce37e69db38", checked := Try.checked }
namespace Rows
def none {H : Type} : Left H := { results := [], args := [] }

/-- 'hatchwaylaw03.PolyTells': WHATEVER THE INPUT: true; the input reads as it did. -/
def polyTellsSpec : ChangeSpec := { name := "polyTells", fn := fun _ => fun
  | [d1, d2] => { results := [.lit (.bool true)], args := [d1, d2] }
  | _ => none }
def polyTellsRow : OpenClaim := { program := "ytohplpihfnkbbaa", sum := "e2331942ded9b0c9f7bca39600ee73256e68cbaa4996062fed25dce37e69db38", func := "hatchway/hatchwaylaw03.PolyTells", spec := "polyTells", inPlace := ["math/bits.Add64"], apart := false }
def PolyTellsSaid : Prop := polyTellsRow.holds Try.pinned (OpenSpec.ofChange polyTellsSpec)

/-- ITS FALSE NEIGHBOUR: 'it returns false'. Refute it at one input. -/
def polyTellsWrong : ChangeSpec := { name := "polyTells", fn := fun _ => fun
  | [d1, d2] => { results := [.lit (.bool false)], args := [d1, d2] }
  | _ => none }
def PolyTellsWrongFalsely : Prop := polyTellsRow.holds Try.pinned (OpenSpec.ofChange polyTellsWrong)

/-- 'hatchwaylaw03.PolyClamps': WHATEVER THE INPUT: true; the input reads as it did. -/
def polyClampsSpec : ChangeSpec := { name := "polyClamps", fn := fun _ => fun
  | [d1, d2, d3] => { results := [.lit (.bool true)], args := [d1, d2, d3] }
  | _ => none }
def polyClampsRow : OpenClaim := { program := "ytohplpihfnkbbaa", sum := "e2331942ded9b0c9f7bca39600ee73256e68cbaa4996062fed25dce37e69db38", func := "hatchway/hatchwaylaw03.PolyClamps", spec := "polyClamps", inPlace := ["math/bits.Add64"], apart := false }
def PolyClampsSaid : Prop := polyClampsRow.holds Try.pinned (OpenSpec.ofChange polyClampsSpec)

/-- ITS FALSE NEIGHBOUR: 'it returns false'. Refute it at one input. -/
def polyClampsWrong : ChangeSpec := { name := "polyClamps", fn := fun _ => fun
  | [d1, d2, d3] => { results := [.lit (.bool false)], args := [d1, d2, d3] }
  | _ => none }
def PolyClampsWrongFalsely : Prop := polyClampsRow.holds Try.pinned (OpenSpec.ofChange polyClampsWrong)

/-- 'hatchwaylaw03.PolyAdds': WHATEVER THE INPUT: true; the input reads as it did. -/
def polyAddsSpec : ChangeSpec := { name := "polyAdds", fn := fun _ => fun
  | [d1, d2] => { results := [.lit (.bool true)], args := [d1, d2] }
  | _ => none }
def polyAddsRow : OpenClaim := { program := "ytohplpihfnkbbaa", sum := "e2331942ded9b0c9f7bca39600ee73256e68cbaa4996062fed25dce37e69db38", func := "hatchway/hatchwaylaw03.PolyAdds", spec := "polyAdds", inPlace := ["math/bits.Add64"], apart := false }
def PolyAddsSaid : Prop := polyAddsRow.holds Try.pinned (OpenSpec.ofChange polyAddsSpec)

/-- ITS FALSE NEIGHBOUR: 'it returns false'. Refute it at one input. -/
def polyAddsWrong : ChangeSpec := { name := "polyAdds", fn := fun _ => fun
  | [d1, d2] => { results := [.lit (.bool false)], args := [d1, d2] }
  | _ => none }
def PolyAddsWrongFalsely : Prop := polyAddsRow.holds Try.pinned (OpenSpec.ofChange polyAddsWrong)

/-- 'hatchwaylaw03.PolyNone': WHATEVER THE INPUT: true; the input reads as it did. -/
def polyNoneSpec : ChangeSpec := { name := "polyNone", fn := fun _ => fun
  | [d1, d2, d3] => { results := [.lit (.bool true)], args := [d1, d2, d3] }
  | _ => none }
def polyNoneRow : OpenClaim := { program := "ytohplpihfnkbbaa", sum := "e2331942ded9b0c9f7bca39600ee73256e68cbaa4996062fed25dce37e69db38", func := "hatchway/hatchwaylaw03.PolyNone", spec := "polyNone", inPlace := ["math/bits.Add64"], apart := false }
def PolyNoneSaid : Prop := polyNoneRow.holds Try.pinned (OpenSpec.ofChange polyNoneSpec)

/-- ITS FALSE NEIGHBOUR: 'it returns false'. Refute it at one input. -/
def polyNoneWrong : ChangeSpec := { name := "polyNone", fn := fun _ => fun
  | [d1, d2, d3] => { results := [.lit (.bool false)], args := [d1, d2, d3] }
  | _ => none }
def PolyNoneWrongFalsely : Prop := polyNoneRow.holds Try.pinned (OpenSpec.ofChange polyNoneWrong)

/-- 'hatchwaylaw03.PolyOne': WHATEVER THE INPUT: true; the input reads as it did. -/
def polyOneSpec : ChangeSpec := { name := "polyOne", fn := fun _ => fun
  | [d1, d2, d3] => { results := [.lit (.bool true)], args := [d1, d2, d3] }
  | _ => none }
def polyOneRow : OpenClaim := { program := "ytohplpihfnkbbaa", sum := "e2331942ded9b0c9f7bca39600ee73256e68cbaa4996062fed25dce37e69db38", func := "hatchway/hatchwaylaw03.PolyOne", spec := "polyOne", inPlace := ["math/bits.Add64"], apart := false }
def PolyOneSaid : Prop := polyOneRow.holds Try.pinned (OpenSpec.ofChange polyOneSpec)

/-- ITS FALSE NEIGHBOUR: 'it returns false'. Refute it at one input. -/
def polyOneWrong : ChangeSpec := { name := "polyOne", fn := fun _ => fun
  | [d1, d2, d3] => { results := [.lit (.bool false)], args := [d1, d2, d3] }
  | _ => none }
def PolyOneWrongFalsely : Prop := polyOneRow.holds Try.pinned (OpenSpec.ofChange polyOneWrong)

/-- 'hatchwaylaw03.PolyDoubles': WHATEVER THE INPUT: true; the input reads as it did. -/
def polyDoublesSpec : ChangeSpec := { name := "polyDoubles", fn := fun _ => fun
  | [d] => { results := [.lit (.bool true)], args := [d] }
  | _ => none }
def polyDoublesRow : OpenClaim := { program := "ytohplpihfnkbbaa", sum := "e2331942ded9b0c9f7bca39600ee73256e68cbaa4996062fed25dce37e69db38", func := "hatchway/hatchwaylaw03.PolyDoubles", spec := "polyDoubles", inPlace := ["math/bits.Add64"], apart := false }
def PolyDoublesSaid : Prop := polyDoublesRow.holds Try.pinned (OpenSpec.ofChange polyDoublesSpec)

/-- ITS FALSE NEIGHBOUR: 'it returns false'. Refute it at one input. -/
def polyDoublesWrong : ChangeSpec := { name := "polyDoubles", fn := fun _ => fun
  | [d] => { results := [.lit (.bool false)], args := [d] }
  | _ => none }
def PolyDoublesWrongFalsely : Prop := polyDoublesRow.holds Try.pinned (OpenSpec.ofChange polyDoublesWrong)

/- THE SECOND FORM. 'bulk': how many values and letters a reading holds, each counted each time it is reached (what is shared counts as often as it is met; a slice's spare places count too). A statement '..UptoSaid' is the law's where the arguments, and the package variables that the reading takes, are together of bulk at most 1048576: NARROWER than '..Said'. Prove '..Said' where nothing that the law and all that it calls make is longer than what came in: it says more and counts as full. Else prove '..UptoSaid'. A law counts once. -/
mutual
def uptoBulk {H : Type} : DataW H → Nat
  | .lit (.string bytes) => bytes.length + 1
  | .lit _ => 1
  | .nil => 1
  | .ptr d => uptoBulk d + 1
  | .slice elems spare => uptoBulkAll elems + uptoBulkAll spare + 1
  | .agg parts => uptoBulkAll parts + 1
  | .iface _ d => uptoBulk d + 1
  | .map entries => uptoBulkEntries entries + 1
  | .held _ => 1
def uptoBulkAll {H : Type} : List (DataW H) → Nat
  | [] => 0
  | d :: r => uptoBulk d + uptoBulkAll r
def uptoBulkEntries {H : Type} : List (Lit × DataW H) → Nat
  | [] => 0
  | x :: r => uptoBulkEntry x + uptoBulkEntries r
def uptoBulkEntry {H : Type} : Lit × DataW H → Nat
  | (.string bytes, d) => bytes.length + uptoBulk d + 1
  | (_, d) => uptoBulk d + 1
 end
def uptoSmall : (H : Type) → List (DataW H) → Bool := fun _ ds => decide (uptoBulkAll ds ≤ 1048576)
def OpenSpec.upto (s : _root_.Go.ChangeSpec) : _root_.Go.OpenSpec := { _root_.Go.OpenSpec.ofChange s with cond := some uptoSmall }

/-- 'hatchwaylaw03.PolyTells', WHERE WHAT IT READS IS OF BULK AT MOST 1048576: true; the input reads as it did. -/
def polyTellsUptoRow : OpenClaim := { program := "ytohplpihfnkbbaa", sum := "e2331942ded9b0c9f7bca39600ee73256e68cbaa4996062fed25dce37e69db38", func := "hatchway/hatchwaylaw03.PolyTells", spec := "polyTells", inPlace := ["math/bits.Add64"], apart := false, narrowed := true }
def PolyTellsUptoSaid : Prop := polyTellsUptoRow.holds Try.pinned (OpenSpec.upto polyTellsSpec)

/-- 'hatchwaylaw03.PolyClamps', WHERE WHAT IT READS IS OF BULK AT MOST 1048576: true; the input reads as it did. -/
def polyClampsUptoRow : OpenClaim := { program := "ytohplpihfnkbbaa", sum := "e2331942ded9b0c9f7bca39600ee73256e68cbaa4996062fed25dce37e69db38", func := "hatchway/hatchwaylaw03.PolyClamps", spec := "polyClamps", inPlace := ["math/bits.Add64"], apart := false, narrowed := true }
def PolyClampsUptoSaid : Prop := polyClampsUptoRow.holds Try.pinned (OpenSpec.upto polyClampsSpec)

/-- 'hatchwaylaw03.PolyAdds', WHERE WHAT IT READS IS OF BULK AT MOST 1048576: true; the input reads as it did. -/
def polyAddsUptoRow : OpenClaim := { program := "ytohplpihfnkbbaa", sum := "e2331942ded9b0c9f7bca39600ee73256e68cbaa4996062fed25dce37e69db38", func := "hatchway/hatchwaylaw03.PolyAdds", spec := "polyAdds", inPlace := ["math/bits.Add64"], apart := false, narrowed := true }
def PolyAddsUptoSaid : Prop := polyAddsUptoRow.holds Try.pinned (OpenSpec.upto polyAddsSpec)

/-- 'hatchwaylaw03.PolyNone', WHERE WHAT IT READS IS OF BULK AT MOST 1048576: true; the input reads as it did. -/
def polyNoneUptoRow : OpenClaim := { program := "ytohplpihfnkbbaa", sum := "e2331942ded9b0c9f7bca39600ee73256e68cbaa4996062fed25dce37e69db38", func := "hatchway/hatchwaylaw03.PolyNone", spec := "polyNone", inPlace := ["math/bits.Add64"], apart := false, narrowed := true }
def PolyNoneUptoSaid : Prop := polyNoneUptoRow.holds Try.pinned (OpenSpec.upto polyNoneSpec)

/-- 'hatchwaylaw03.PolyOne', WHERE WHAT IT READS IS OF BULK AT MOST 1048576: true; the input reads as it did. -/
def polyOneUptoRow : OpenClaim := { program := "ytohplpihfnkbbaa", sum := "e2331942ded9b0c9f7bca39600ee73256e68cbaa4996062fed25dce37e69db38", func := "hatchway/hatchwaylaw03.PolyOne", spec := "polyOne", inPlace := ["math/bits.Add64"], apart := false, narrowed := true }
def PolyOneUptoSaid : Prop := polyOneUptoRow.holds Try.pinned (OpenSpec.upto polyOneSpec)

/-- 'hatchwaylaw03.PolyDoubles', WHERE WHAT IT READS IS OF BULK AT MOST 1048576: true; the input reads as it did. -/
def polyDoublesUptoRow : OpenClaim := { program := "ytohplpihfnkbbaa", sum := "e2331942ded9b0c9f7bca39600ee73256e68cbaa4996062fed25dce37e69db38", func := "hatchway/hatchwaylaw03.PolyDoubles", spec := "polyDoubles", inPlace := ["math/bits.Add64"], apart := false, narrowed := true }
def PolyDoublesUptoSaid : Prop := polyDoublesUptoRow.holds Try.pinned (OpenSpec.upto polyDoublesSpec)

end Rows
end Go.Proofs.Ytohplpihfnkbbaa
