/-
  No cell of these rows narrows 'for every input' (looked for: loops, veiled, ifaces, maps, wideKeys, modest, calm, conditions, laid).
  DERIVED. THE GIVEN ROWS OF THIS SEAT. 11 by the template 'for every input the law returns true; each argument reads behind the call as it read before'; 0 by the template 'total and deterministic' (their statements: YtcnihgjibiidpaaTotals.lean).
  GIVEN WITH THE SEED: the statements are not yours to turn. If you find one false, say at which input.
  Laid BY PROGRAM, IN A SANDBOX (cutbox-rows.mjs): the forced cells as the released guide's own fill.sh prints them over the translation 0831e4afeddb8738… (all of the seat's roots in one cut). By AI agents, Wed Nov 11 2026. No macro, syntax, notation, axiom, sorry.
-/
import Derived.Test.YtcnihgjibiidpaaChecked
import GoSem.Claim
import GoSem.ClaimJoined
import GoSem.ClaimMapViews
import Derived.JoinedTies
import Derived.KernelRfl
namespace Go.Proofs.Ytcnihgjibiidpaa
/- THE CELL 'sum', in the pinned program and in every row, IS THE sha256 OF THE DUMP (.gsa) THAT YtcnihgjibiidpaaProg.lean LOADS. Nothing in Lean hashes anything: it is a label: what it is worth is what the hold of that sum in a sandbox is worth. -/
noncomputable def Try.pinned : Pinned := { name := "ytcnihgjibiidpaa", sum := "0831e4afeddb873803705370fbb981c1f34d920f1d076bb8587dd2edfb953dce", checked := Try.checked }
namespace Rows
def none {H : Type} : Left H := { results := [], args := [] }

/-- 'hatchwaylaw03.PolyTells': WHATEVER THE INPUT: true; the input reads as it did. -/
def polyTellsSpec : ChangeSpec := { name := "polyTells", fn := fun _ => fun
  | [d1, d2] => { results := [.lit (.bool true)], args := [d1, d2] }
  | _ => none }
def polyTellsRow : OpenClaim := { program := "ytcnihgjibiidpaa", sum := "0831e4afeddb873803705370fbb981c1f34d920f1d076bb8587dd2edfb953dce", func := "hatchway/hatchwaylaw03.PolyTells", spec := "polyTells", inPlace := ["math/bits.Add64"], apart := false }
def PolyTellsSaid : Prop := polyTellsRow.holds Try.pinned (OpenSpec.ofChange polyTellsSpec)

/-- ITS FALSE NEIGHBOUR: 'it returns false'. Refute it at one input. -/
def polyTellsWrong : ChangeSpec := { name := "polyTells", fn := fun _ => fun
  | [d1, d2] => { results := [.lit (.bool false)], args := [d1, d2] }
  | _ => none }
def PolyTellsWrongFalsely : Prop := polyTellsRow.holds Try.pinned (OpenSpec.ofChange polyTellsWrong)

/-- 'hatchwaylaw03.PolyClamps': WHATEVER THE INPUT: true; the input reads as it did. -/
def polyClampsSpec : ChangeSpec := { name := "polyClamps", fn := fun _ => fun
  | [d1, d2, d3] => { results := [.lit (.bool true)], args := [d1, d2, d3] }
  | _ => none }
def polyClampsRow : OpenClaim := { program := "ytcnihgjibiidpaa", sum := "0831e4afeddb873803705370fbb981c1f34d920f1d076bb8587dd2edfb953dce", func := "hatchway/hatchwaylaw03.PolyClamps", spec := "polyClamps", inPlace := ["math/bits.Add64"], apart := false }
def PolyClampsSaid : Prop := polyClampsRow.holds Try.pinned (OpenSpec.ofChange polyClampsSpec)

/-- ITS FALSE NEIGHBOUR: 'it returns false'. Refute it at one input. -/
def polyClampsWrong : ChangeSpec := { name := "polyClamps", fn := fun _ => fun
  | [d1, d2, d3] => { results := [.lit (.bool false)], args := [d1, d2, d3] }
  | _ => none }
def PolyClampsWrongFalsely : Prop := polyClampsRow.holds Try.pinned (OpenSpec.ofChange polyClampsWrong)

/-- 'hatchwaylaw03.PolyAdds': WHATEVER THE INPUT: true; the input reads as it did. -/
def polyAddsSpec : ChangeSpec := { name := "polyAdds", fn := fun _ => fun
  | [d1, d2] => { results := [.lit (.bool true)], args := [d1, d2] }
  | _ => none }
def polyAddsRow : OpenClaim := { program := "ytcnihgjibiidpaa", sum := "0831e4afeddb873803705370fbb981c1f34d920f1d076bb8587dd2edfb953dce", func := "hatchway/hatchwaylaw03.PolyAdds", spec := "polyAdds", inPlace := ["math/bits.Add64"], apart := false }
def PolyAddsSaid : Prop := polyAddsRow.holds Try.pinned (OpenSpec.ofChange polyAddsSpec)

/-- ITS FALSE NEIGHBOUR: 'it returns false'. Refute it at one input. -/
def polyAddsWrong : ChangeSpec := { name := "polyAdds", fn := fun _ => fun
  | [d1, d2] => { results := [.lit (.bool false)], args := [d1, d2] }
  | _ => none }
def PolyAddsWrongFalsely : Prop := polyAddsRow.holds Try.pinned (OpenSpec.ofChange polyAddsWrong)

/-- 'hatchwaylaw03.PolyNone': WHATEVER THE INPUT: true; the input reads as it did. -/
def polyNoneSpec : ChangeSpec := { name := "polyNone", fn := fun _ => fun
  | [d1, d2, d3] => { results := [.lit (.bool true)], args := [d1, d2, d3] }
  | _ => none }
def polyNoneRow : OpenClaim := { program := "ytcnihgjibiidpaa", sum := "0831e4afeddb873803705370fbb981c1f34d920f1d076bb8587dd2edfb953dce", func := "hatchway/hatchwaylaw03.PolyNone", spec := "polyNone", inPlace := ["math/bits.Add64"], apart := false }
def PolyNoneSaid : Prop := polyNoneRow.holds Try.pinned (OpenSpec.ofChange polyNoneSpec)

/-- ITS FALSE NEIGHBOUR: 'it returns false'. Refute it at one input. -/
def polyNoneWrong : ChangeSpec := { name := "polyNone", fn := fun _ => fun
  | [d1, d2, d3] => { results := [.lit (.bool false)], args := [d1, d2, d3] }
  | _ => none }
def PolyNoneWrongFalsely : Prop := polyNoneRow.holds Try.pinned (OpenSpec.ofChange polyNoneWrong)

/-- 'hatchwaylaw03.PolyOne': WHATEVER THE INPUT: true; the input reads as it did. -/
def polyOneSpec : ChangeSpec := { name := "polyOne", fn := fun _ => fun
  | [d1, d2, d3] => { results := [.lit (.bool true)], args := [d1, d2, d3] }
  | _ => none }
def polyOneRow : OpenClaim := { program := "ytcnihgjibiidpaa", sum := "0831e4afeddb873803705370fbb981c1f34d920f1d076bb8587dd2edfb953dce", func := "hatchway/hatchwaylaw03.PolyOne", spec := "polyOne", inPlace := ["math/bits.Add64"], apart := false }
def PolyOneSaid : Prop := polyOneRow.holds Try.pinned (OpenSpec.ofChange polyOneSpec)

/-- ITS FALSE NEIGHBOUR: 'it returns false'. Refute it at one input. -/
def polyOneWrong : ChangeSpec := { name := "polyOne", fn := fun _ => fun
  | [d1, d2, d3] => { results := [.lit (.bool false)], args := [d1, d2, d3] }
  | _ => none }
def PolyOneWrongFalsely : Prop := polyOneRow.holds Try.pinned (OpenSpec.ofChange polyOneWrong)

/-- 'hatchwaylaw03.PolyDoubles': WHATEVER THE INPUT: true; the input reads as it did. -/
def polyDoublesSpec : ChangeSpec := { name := "polyDoubles", fn := fun _ => fun
  | [d] => { results := [.lit (.bool true)], args := [d] }
  | _ => none }
def polyDoublesRow : OpenClaim := { program := "ytcnihgjibiidpaa", sum := "0831e4afeddb873803705370fbb981c1f34d920f1d076bb8587dd2edfb953dce", func := "hatchway/hatchwaylaw03.PolyDoubles", spec := "polyDoubles", inPlace := ["math/bits.Add64"], apart := false }
def PolyDoublesSaid : Prop := polyDoublesRow.holds Try.pinned (OpenSpec.ofChange polyDoublesSpec)

/-- ITS FALSE NEIGHBOUR: 'it returns false'. Refute it at one input. -/
def polyDoublesWrong : ChangeSpec := { name := "polyDoubles", fn := fun _ => fun
  | [d] => { results := [.lit (.bool false)], args := [d] }
  | _ => none }
def PolyDoublesWrongFalsely : Prop := polyDoublesRow.holds Try.pinned (OpenSpec.ofChange polyDoublesWrong)

/-- 'hatchwaylaw04.AeadSeals': WHATEVER THE INPUT: true; the input reads as it did. -/
def aeadSealsSpec : ChangeSpec := { name := "aeadSeals", fn := fun _ => fun
  | [d1, d2, d3, d4] => { results := [.lit (.bool true)], args := [d1, d2, d3, d4] }
  | _ => none }
def aeadSealsRow : OpenClaim := { program := "ytcnihgjibiidpaa", sum := "0831e4afeddb873803705370fbb981c1f34d920f1d076bb8587dd2edfb953dce", func := "hatchway/hatchwaylaw04.AeadSeals", spec := "aeadSeals", inPlace := ["math/bits.Add64"], apart := false }
def AeadSealsSaid : Prop := aeadSealsRow.holds Try.pinned (OpenSpec.ofChange aeadSealsSpec)

/-- ITS FALSE NEIGHBOUR: 'it returns false'. Refute it at one input. -/
def aeadSealsWrong : ChangeSpec := { name := "aeadSeals", fn := fun _ => fun
  | [d1, d2, d3, d4] => { results := [.lit (.bool false)], args := [d1, d2, d3, d4] }
  | _ => none }
def AeadSealsWrongFalsely : Prop := aeadSealsRow.holds Try.pinned (OpenSpec.ofChange aeadSealsWrong)

/-- 'hatchwaylaw04.AeadTags': WHATEVER THE INPUT: true; the input reads as it did. -/
def aeadTagsSpec : ChangeSpec := { name := "aeadTags", fn := fun _ => fun
  | [d1, d2, d3, d4, d5, d6] => { results := [.lit (.bool true)], args := [d1, d2, d3, d4, d5, d6] }
  | _ => none }
def aeadTagsRow : OpenClaim := { program := "ytcnihgjibiidpaa", sum := "0831e4afeddb873803705370fbb981c1f34d920f1d076bb8587dd2edfb953dce", func := "hatchway/hatchwaylaw04.AeadTags", spec := "aeadTags", inPlace := ["math/bits.Add64"], apart := false }
def AeadTagsSaid : Prop := aeadTagsRow.holds Try.pinned (OpenSpec.ofChange aeadTagsSpec)

/-- ITS FALSE NEIGHBOUR: 'it returns false'. Refute it at one input. -/
def aeadTagsWrong : ChangeSpec := { name := "aeadTags", fn := fun _ => fun
  | [d1, d2, d3, d4, d5, d6] => { results := [.lit (.bool false)], args := [d1, d2, d3, d4, d5, d6] }
  | _ => none }
def AeadTagsWrongFalsely : Prop := aeadTagsRow.holds Try.pinned (OpenSpec.ofChange aeadTagsWrong)

/-- 'hatchwaylaw04.AeadStream': WHATEVER THE INPUT: true; the input reads as it did. -/
def aeadStreamSpec : ChangeSpec := { name := "aeadStream", fn := fun _ => fun
  | [d1, d2, d3] => { results := [.lit (.bool true)], args := [d1, d2, d3] }
  | _ => none }
def aeadStreamRow : OpenClaim := { program := "ytcnihgjibiidpaa", sum := "0831e4afeddb873803705370fbb981c1f34d920f1d076bb8587dd2edfb953dce", func := "hatchway/hatchwaylaw04.AeadStream", spec := "aeadStream", inPlace := ["math/bits.Add64"], apart := false }
def AeadStreamSaid : Prop := aeadStreamRow.holds Try.pinned (OpenSpec.ofChange aeadStreamSpec)

/-- ITS FALSE NEIGHBOUR: 'it returns false'. Refute it at one input. -/
def aeadStreamWrong : ChangeSpec := { name := "aeadStream", fn := fun _ => fun
  | [d1, d2, d3] => { results := [.lit (.bool false)], args := [d1, d2, d3] }
  | _ => none }
def AeadStreamWrongFalsely : Prop := aeadStreamRow.holds Try.pinned (OpenSpec.ofChange aeadStreamWrong)

/-- 'hatchwaylaw04.AeadShort': WHATEVER THE INPUT: true; the input reads as it did. -/
def aeadShortSpec : ChangeSpec := { name := "aeadShort", fn := fun _ => fun
  | [d1, d2, d3, d4] => { results := [.lit (.bool true)], args := [d1, d2, d3, d4] }
  | _ => none }
def aeadShortRow : OpenClaim := { program := "ytcnihgjibiidpaa", sum := "0831e4afeddb873803705370fbb981c1f34d920f1d076bb8587dd2edfb953dce", func := "hatchway/hatchwaylaw04.AeadShort", spec := "aeadShort", inPlace := ["math/bits.Add64"], apart := false }
def AeadShortSaid : Prop := aeadShortRow.holds Try.pinned (OpenSpec.ofChange aeadShortSpec)

/-- ITS FALSE NEIGHBOUR: 'it returns false'. Refute it at one input. -/
def aeadShortWrong : ChangeSpec := { name := "aeadShort", fn := fun _ => fun
  | [d1, d2, d3, d4] => { results := [.lit (.bool false)], args := [d1, d2, d3, d4] }
  | _ => none }
def AeadShortWrongFalsely : Prop := aeadShortRow.holds Try.pinned (OpenSpec.ofChange aeadShortWrong)

/-- 'hatchwaylaw04.AeadSums': WHATEVER THE INPUT: true; the input reads as it did. -/
def aeadSumsSpec : ChangeSpec := { name := "aeadSums", fn := fun _ => fun
  | [d1, d2, d3, d4] => { results := [.lit (.bool true)], args := [d1, d2, d3, d4] }
  | _ => none }
def aeadSumsRow : OpenClaim := { program := "ytcnihgjibiidpaa", sum := "0831e4afeddb873803705370fbb981c1f34d920f1d076bb8587dd2edfb953dce", func := "hatchway/hatchwaylaw04.AeadSums", spec := "aeadSums", inPlace := ["math/bits.Add64"], apart := false }
def AeadSumsSaid : Prop := aeadSumsRow.holds Try.pinned (OpenSpec.ofChange aeadSumsSpec)

/-- ITS FALSE NEIGHBOUR: 'it returns false'. Refute it at one input. -/
def aeadSumsWrong : ChangeSpec := { name := "aeadSums", fn := fun _ => fun
  | [d1, d2, d3, d4] => { results := [.lit (.bool false)], args := [d1, d2, d3, d4] }
  | _ => none }
def AeadSumsWrongFalsely : Prop := aeadSumsRow.holds Try.pinned (OpenSpec.ofChange aeadSumsWrong)

/- THE SECOND FORM. 'bulk': how many values and letters a reading holds, each counted each time it is reached (what is shared counts as often as it is met; a slice's spare places count too). A statement '..UptoSaid' is the law's where the arguments, and the package variables that the reading takes, are together of bulk at most 1048576: NARROWER than '..Said'. Prove '..Said' where nothing that the law and all that it calls make is longer than what came in: it says more and counts as full. Else prove '..UptoSaid'. A law counts once. -/
mutual
def uptoBulk {H : Type} : DataW H → Nat
  | .lit (.string bytes) => bytes.length + 1
  | .lit _ => 1
  | .nil => 1
  | .ptr d => uptoBulk d + 1
  | .slice elems spare => uptoBulkAll elems + uptoBulkAll spare + 1
  | .agg parts => uptoBulkAll parts + 1
  | .iface _ d => uptoBulk d + 1
  | .map entries => uptoBulkEntries entries + 1
  | .held _ => 1
def uptoBulkAll {H : Type} : List (DataW H) → Nat
  | [] => 0
  | d :: r => uptoBulk d + uptoBulkAll r
def uptoBulkEntries {H : Type} : List (Lit × DataW H) → Nat
  | [] => 0
  | x :: r => uptoBulkEntry x + uptoBulkEntries r
def uptoBulkEntry {H : Type} : Lit × DataW H → Nat
  | (.string bytes, d) => bytes.length + uptoBulk d + 1
  | (_, d) => uptoBulk d + 1
 end
def uptoSmall : (H : Type) → List (DataW H) → Bool := fun _ ds => decide (uptoBulkAll ds ≤ 1048576)
def OpenSpec.upto (s : _root_.Go.ChangeSpec) : _root_.Go.OpenSpec := { _root_.Go.OpenSpec.ofChange s with cond := some uptoSmall }

/-- 'hatchwaylaw03.PolyTells', WHERE WHAT IT READS IS OF BULK AT MOST 1048576: true; the input reads as it did. -/
def polyTellsUptoRow : OpenClaim := { program := "ytcnihgjibiidpaa", sum := "0831e4afeddb873803705370fbb981c1f34d920f1d076bb8587dd2edfb953dce", func := "hatchway/hatchwaylaw03.PolyTells", spec := "polyTells", inPlace := ["math/bits.Add64"], apart := false, narrowed := true }
def PolyTellsUptoSaid : Prop := polyTellsUptoRow.holds Try.pinned (OpenSpec.upto polyTellsSpec)

/-- 'hatchwaylaw03.PolyClamps', WHERE WHAT IT READS IS OF BULK AT MOST 1048576: true; the input reads as it did. -/
def polyClampsUptoRow : OpenClaim := { program := "ytcnihgjibiidpaa", sum := "0831e4afeddb873803705370fbb981c1f34d920f1d076bb8587dd2edfb953dce", func := "hatchway/hatchwaylaw03.PolyClamps", spec := "polyClamps", inPlace := ["math/bits.Add64"], apart := false, narrowed := true }
def PolyClampsUptoSaid : Prop := polyClampsUptoRow.holds Try.pinned (OpenSpec.upto polyClampsSpec)

/-- 'hatchwaylaw03.PolyAdds', WHERE WHAT IT READS IS OF BULK AT MOST 1048576: true; the input reads as it did. -/
def polyAddsUptoRow : OpenClaim := { program := "ytcnihgjibiidpaa", sum := "0831e4afeddb873803705370fbb981c1f34d920f1d076bb8587dd2edfb953dce", func := "hatchway/hatchwaylaw03.PolyAdds", spec := "polyAdds", inPlace := ["math/bits.Add64"], apart := false, narrowed := true }
def PolyAddsUptoSaid : Prop := polyAddsUptoRow.holds Try.pinned (OpenSpec.upto polyAddsSpec)

/-- 'hatchwaylaw03.PolyNone', WHERE WHAT IT READS IS OF BULK AT MOST 1048576: true; the input reads as it did. -/
def polyNoneUptoRow : OpenClaim := { program := "ytcnihgjibiidpaa", sum := "0831e4afeddb873803705370fbb981c1f34d920f1d076bb8587dd2edfb953dce", func := "hatchway/hatchwaylaw03.PolyNone", spec := "polyNone", inPlace := ["math/bits.Add64"], apart := false, narrowed := true }
def PolyNoneUptoSaid : Prop := polyNoneUptoRow.holds Try.pinned (OpenSpec.upto polyNoneSpec)

/-- 'hatchwaylaw03.PolyOne', WHERE WHAT IT READS IS OF BULK AT MOST 1048576: true; the input reads as it did. -/
def polyOneUptoRow : OpenClaim := { program := "ytcnihgjibiidpaa", sum := "0831e4afeddb873803705370fbb981c1f34d920f1d076bb8587dd2edfb953dce", func := "hatchway/hatchwaylaw03.PolyOne", spec := "polyOne", inPlace := ["math/bits.Add64"], apart := false, narrowed := true }
def PolyOneUptoSaid : Prop := polyOneUptoRow.holds Try.pinned (OpenSpec.upto polyOneSpec)

/-- 'hatchwaylaw03.PolyDoubles', WHERE WHAT IT READS IS OF BULK AT MOST 1048576: true; the input reads as it did. -/
def polyDoublesUptoRow : OpenClaim := { program := "ytcnihgjibiidpaa", sum := "0831e4afeddb873803705370fbb981c1f34d920f1d076bb8587dd2edfb953dce", func := "hatchway/hatchwaylaw03.PolyDoubles", spec := "polyDoubles", inPlace := ["math/bits.Add64"], apart := false, narrowed := true }
def PolyDoublesUptoSaid : Prop := polyDoublesUptoRow.holds Try.pinned (OpenSpec.upto polyDoublesSpec)

/-- 'hatchwaylaw04.AeadSeals', WHERE WHAT IT READS IS OF BULK AT MOST 1048576: true; the input reads as it did. -/
def aeadSealsUptoRow : OpenClaim := { program := "ytcnihgjibiidpaa", sum := "0831e4afeddb873803705370fbb981c1f34d920f1d076bb8587dd2edfb953dce", func := "hatchway/hatchwaylaw04.AeadSeals", spec := "aeadSeals", inPlace := ["math/bits.Add64"], apart := false, narrowed := true }
def AeadSealsUptoSaid : Prop := aeadSealsUptoRow.holds Try.pinned (OpenSpec.upto aeadSealsSpec)

/-- 'hatchwaylaw04.AeadTags', WHERE WHAT IT READS IS OF BULK AT MOST 1048576: true; the input reads as it did. -/
def aeadTagsUptoRow : OpenClaim := { program := "ytcnihgjibiidpaa", sum := "0831e4afeddb873803705370fbb981c1f34d920f1d076bb8587dd2edfb953dce", func := "hatchway/hatchwaylaw04.AeadTags", spec := "aeadTags", inPlace := ["math/bits.Add64"], apart := false, narrowed := true }
def AeadTagsUptoSaid : Prop := aeadTagsUptoRow.holds Try.pinned (OpenSpec.upto aeadTagsSpec)

/-- 'hatchwaylaw04.AeadStream', WHERE WHAT IT READS IS OF BULK AT MOST 1048576: true; the input reads as it did. -/
def aeadStreamUptoRow : OpenClaim := { program := "ytcnihgjibiidpaa", sum := "0831e4afeddb873803705370fbb981c1f34d920f1d076bb8587dd2edfb953dce", func := "hatchway/hatchwaylaw04.AeadStream", spec := "aeadStream", inPlace := ["math/bits.Add64"], apart := false, narrowed := true }
def AeadStreamUptoSaid : Prop := aeadStreamUptoRow.holds Try.pinned (OpenSpec.upto aeadStreamSpec)

/-- 'hatchwaylaw04.AeadShort', WHERE WHAT IT READS IS OF BULK AT MOST 1048576: true; the input reads as it did. -/
def aeadShortUptoRow : OpenClaim := { program := "ytcnihgjibiidpaa", sum := "0831e4afeddb873803705370fbb981c1f34d920f1d076bb8587dd2edfb953dce", func := "hatchway/hatchwaylaw04.AeadShort", spec := "aeadShort", inPlace := ["math/bits.Add64"], apart := false, narrowed := true }
def AeadShortUptoSaid : Prop := aeadShortUptoRow.holds Try.pinned (OpenSpec.upto aeadShortSpec)

/-- 'hatchwaylaw04.AeadSums', WHERE WHAT IT READS IS OF BULK AT MOST 1048576: true; the input reads as it did. -/
def aeadSumsUptoRow : OpenClaim := { program := "ytcnihgjibiidpaa", sum := "0831e4afeddb873803705370fbb981c1f34d920f1d076bb8587dd2edfb953dce", func := "hatchway/hatchwaylaw04.AeadSums", spec := "aeadSums", inPlace := ["math/bits.Add64"], apart := false, narrowed := true }
def AeadSumsUptoSaid : Prop := aeadSumsUptoRow.holds Try.pinned (OpenSpec.upto aeadSumsSpec)

end Rows
end Go.Proofs.Ytcnihgjibiidpaa
