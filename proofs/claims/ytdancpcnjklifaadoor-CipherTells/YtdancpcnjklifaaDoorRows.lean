/-
  NARROWER THAN 'FOR EVERY INPUT', by the rows' own cells (each row's printed sentence says how): CipherTells: laid · CipherOnce: laid · CipherBoth: laid · CipherPlain: laid · CipherRekeys: laid · CipherWrong: laid.
  DERIVED. THE GIVEN ROWS OF THIS SEAT. 6 by the template 'for every input the law returns true; each argument reads behind the call as it read before'; 0 by the template 'total and deterministic' (their statements: YtdancpcnjklifaaDoorTotals.lean).
  GIVEN WITH THE SEED: the statements are not yours to turn. If you find one false, say at which input.
  Laid BY PROGRAM, IN A SANDBOX (cutbox-rows.mjs): the forced cells as the released guide's own fill.sh prints them over the translation 3b0d3a5c09bfca57… (all of the seat's roots in one cut). By AI agents, Wed Nov 11 2026. No macro, syntax, notation, axiom, sorry.
-/
import Derived.Test.YtdancpcnjklifaaDoorChecked
import GoSem.Claim
import GoSem.ClaimJoined
import GoSem.ClaimMapViews
import Derived.JoinedTies
import Derived.KernelRfl
namespace Go.Proofs.YtdancpcnjklifaaDoor
/- THE CELL 'sum', in the pinned program and in every row, IS THE sha256 OF THE DUMP (.gsa) THAT YtdancpcnjklifaaDoorProg.lean LOADS. Nothing in Lean hashes anything: it is a label: what it is worth is what the hold of that sum in a sandbox is worth. -/
noncomputable def Tryd.pinned : Pinned := { name := "ytdancpcnjklifaadoor", sum := "3b0d3a5c09bfca570b95ae49d3d40bb1362ded76278e8a72cbcc66ecb96c9378", checked := Tryd.checked }
namespace Rows
def none {H : Type} : Left H := { results := [], args := [] }

/- WHAT THE LISTED PACKAGE-LEVEL VARIABLES READ AS WHEN THE CALL BEGINS. Each datum BY PROGRAM (the guide's laid-datum.mjs) off the statement by which the dump's own 'gosem.cut.vars' lays the variable. In a bare row this is a premise. The card (YtdancpcnjklifaaDoorCards.lean) ties it to the program's text. -/
def laid_hatchway_blake_iv {H : Type} : DataW H := .agg [.lit (.int .u32 1779033703), .lit (.int .u32 3144134277), .lit (.int .u32 1013904242), .lit (.int .u32 2773480762), .lit (.int .u32 1359893119), .lit (.int .u32 2600822924), .lit (.int .u32 528734635), .lit (.int .u32 1541459225)]
def laid_hatchway_blake_rows {H : Type} : DataW H := .agg [.agg [.lit (.int .u8 0), .lit (.int .u8 1), .lit (.int .u8 2), .lit (.int .u8 3), .lit (.int .u8 4), .lit (.int .u8 5), .lit (.int .u8 6), .lit (.int .u8 7), .lit (.int .u8 8), .lit (.int .u8 9), .lit (.int .u8 10), .lit (.int .u8 11), .lit (.int .u8 12), .lit (.int .u8 13), .lit (.int .u8 14), .lit (.int .u8 15)], .agg [.lit (.int .u8 14), .lit (.int .u8 10), .lit (.int .u8 4), .lit (.int .u8 8), .lit (.int .u8 9), .lit (.int .u8 15), .lit (.int .u8 13), .lit (.int .u8 6), .lit (.int .u8 1), .lit (.int .u8 12), .lit (.int .u8 0), .lit (.int .u8 2), .lit (.int .u8 11), .lit (.int .u8 7), .lit (.int .u8 5), .lit (.int .u8 3)], .agg [.lit (.int .u8 11), .lit (.int .u8 8), .lit (.int .u8 12), .lit (.int .u8 0), .lit (.int .u8 5), .lit (.int .u8 2), .lit (.int .u8 15), .lit (.int .u8 13), .lit (.int .u8 10), .lit (.int .u8 14), .lit (.int .u8 3), .lit (.int .u8 6), .lit (.int .u8 7), .lit (.int .u8 1), .lit (.int .u8 9), .lit (.int .u8 4)], .agg [.lit (.int .u8 7), .lit (.int .u8 9), .lit (.int .u8 3), .lit (.int .u8 1), .lit (.int .u8 13), .lit (.int .u8 12), .lit (.int .u8 11), .lit (.int .u8 14), .lit (.int .u8 2), .lit (.int .u8 6), .lit (.int .u8 5), .lit (.int .u8 10), .lit (.int .u8 4), .lit (.int .u8 0), .lit (.int .u8 15), .lit (.int .u8 8)], .agg [.lit (.int .u8 9), .lit (.int .u8 0), .lit (.int .u8 5), .lit (.int .u8 7), .lit (.int .u8 2), .lit (.int .u8 4), .lit (.int .u8 10), .lit (.int .u8 15), .lit (.int .u8 14), .lit (.int .u8 1), .lit (.int .u8 11), .lit (.int .u8 12), .lit (.int .u8 6), .lit (.int .u8 8), .lit (.int .u8 3), .lit (.int .u8 13)], .agg [.lit (.int .u8 2), .lit (.int .u8 12), .lit (.int .u8 6), .lit (.int .u8 10), .lit (.int .u8 0), .lit (.int .u8 11), .lit (.int .u8 8), .lit (.int .u8 3), .lit (.int .u8 4), .lit (.int .u8 13), .lit (.int .u8 7), .lit (.int .u8 5), .lit (.int .u8 15), .lit (.int .u8 14), .lit (.int .u8 1), .lit (.int .u8 9)], .agg [.lit (.int .u8 12), .lit (.int .u8 5), .lit (.int .u8 1), .lit (.int .u8 15), .lit (.int .u8 14), .lit (.int .u8 13), .lit (.int .u8 4), .lit (.int .u8 10), .lit (.int .u8 0), .lit (.int .u8 7), .lit (.int .u8 6), .lit (.int .u8 3), .lit (.int .u8 9), .lit (.int .u8 2), .lit (.int .u8 8), .lit (.int .u8 11)], .agg [.lit (.int .u8 13), .lit (.int .u8 11), .lit (.int .u8 7), .lit (.int .u8 14), .lit (.int .u8 12), .lit (.int .u8 1), .lit (.int .u8 3), .lit (.int .u8 9), .lit (.int .u8 5), .lit (.int .u8 0), .lit (.int .u8 15), .lit (.int .u8 4), .lit (.int .u8 8), .lit (.int .u8 6), .lit (.int .u8 2), .lit (.int .u8 10)], .agg [.lit (.int .u8 6), .lit (.int .u8 15), .lit (.int .u8 14), .lit (.int .u8 9), .lit (.int .u8 11), .lit (.int .u8 3), .lit (.int .u8 0), .lit (.int .u8 8), .lit (.int .u8 12), .lit (.int .u8 2), .lit (.int .u8 13), .lit (.int .u8 7), .lit (.int .u8 1), .lit (.int .u8 4), .lit (.int .u8 10), .lit (.int .u8 5)], .agg [.lit (.int .u8 10), .lit (.int .u8 2), .lit (.int .u8 8), .lit (.int .u8 4), .lit (.int .u8 7), .lit (.int .u8 6), .lit (.int .u8 1), .lit (.int .u8 5), .lit (.int .u8 15), .lit (.int .u8 11), .lit (.int .u8 9), .lit (.int .u8 14), .lit (.int .u8 3), .lit (.int .u8 12), .lit (.int .u8 13), .lit (.int .u8 0)]]

/-- 'hatchwaylaw09.CipherTells': WHATEVER THE INPUT: true; the input reads as it did. -/
def cipherTellsSpec : ChangeSpec := { name := "cipherTells", fn := fun _ => fun
  | [d1, d2] => { results := [.lit (.bool true)], args := [d1, d2] }
  | _ => none }
def cipherTellsRow : OpenClaim := { program := "ytdancpcnjklifaadoor", sum := "3b0d3a5c09bfca570b95ae49d3d40bb1362ded76278e8a72cbcc66ecb96c9378", func := "hatchway/hatchwaylaw09.CipherTells", spec := "cipherTells", inPlace := ["math/bits.Add64"], unfollowed := true, recurses := true, named := ["hatchway/blake.iv", "hatchway/blake.rows"], apart := false, laid := [("hatchway/blake.iv", laid_hatchway_blake_iv), ("hatchway/blake.rows", laid_hatchway_blake_rows)] }
def CipherTellsSaid : Prop := cipherTellsRow.holds Tryd.pinned (OpenSpec.ofChange cipherTellsSpec)

/-- ITS FALSE NEIGHBOUR: 'it returns false'. Refute it at one input. -/
def cipherTellsWrong : ChangeSpec := { name := "cipherTells", fn := fun _ => fun
  | [d1, d2] => { results := [.lit (.bool false)], args := [d1, d2] }
  | _ => none }
def CipherTellsWrongFalsely : Prop := cipherTellsRow.holds Tryd.pinned (OpenSpec.ofChange cipherTellsWrong)

/-- 'hatchwaylaw09.CipherOnce': WHATEVER THE INPUT: true; the input reads as it did. -/
def cipherOnceSpec : ChangeSpec := { name := "cipherOnce", fn := fun _ => fun
  | [d1, d2, d3] => { results := [.lit (.bool true)], args := [d1, d2, d3] }
  | _ => none }
def cipherOnceRow : OpenClaim := { program := "ytdancpcnjklifaadoor", sum := "3b0d3a5c09bfca570b95ae49d3d40bb1362ded76278e8a72cbcc66ecb96c9378", func := "hatchway/hatchwaylaw09.CipherOnce", spec := "cipherOnce", inPlace := ["math/bits.Add64"], unfollowed := true, recurses := true, named := ["hatchway/blake.iv", "hatchway/blake.rows"], apart := false, laid := [("hatchway/blake.iv", laid_hatchway_blake_iv), ("hatchway/blake.rows", laid_hatchway_blake_rows)] }
def CipherOnceSaid : Prop := cipherOnceRow.holds Tryd.pinned (OpenSpec.ofChange cipherOnceSpec)

/-- ITS FALSE NEIGHBOUR: 'it returns false'. Refute it at one input. -/
def cipherOnceWrong : ChangeSpec := { name := "cipherOnce", fn := fun _ => fun
  | [d1, d2, d3] => { results := [.lit (.bool false)], args := [d1, d2, d3] }
  | _ => none }
def CipherOnceWrongFalsely : Prop := cipherOnceRow.holds Tryd.pinned (OpenSpec.ofChange cipherOnceWrong)

/-- 'hatchwaylaw09.CipherBoth': WHATEVER THE INPUT: true; the input reads as it did. -/
def cipherBothSpec : ChangeSpec := { name := "cipherBoth", fn := fun _ => fun
  | [d1, d2] => { results := [.lit (.bool true)], args := [d1, d2] }
  | _ => none }
def cipherBothRow : OpenClaim := { program := "ytdancpcnjklifaadoor", sum := "3b0d3a5c09bfca570b95ae49d3d40bb1362ded76278e8a72cbcc66ecb96c9378", func := "hatchway/hatchwaylaw09.CipherBoth", spec := "cipherBoth", inPlace := ["math/bits.Add64"], unfollowed := true, recurses := true, named := ["hatchway/blake.iv", "hatchway/blake.rows"], apart := false, laid := [("hatchway/blake.iv", laid_hatchway_blake_iv), ("hatchway/blake.rows", laid_hatchway_blake_rows)] }
def CipherBothSaid : Prop := cipherBothRow.holds Tryd.pinned (OpenSpec.ofChange cipherBothSpec)

/-- ITS FALSE NEIGHBOUR: 'it returns false'. Refute it at one input. -/
def cipherBothWrong : ChangeSpec := { name := "cipherBoth", fn := fun _ => fun
  | [d1, d2] => { results := [.lit (.bool false)], args := [d1, d2] }
  | _ => none }
def CipherBothWrongFalsely : Prop := cipherBothRow.holds Tryd.pinned (OpenSpec.ofChange cipherBothWrong)

/-- 'hatchwaylaw09.CipherPlain': WHATEVER THE INPUT: true; the input reads as it did. -/
def cipherPlainSpec : ChangeSpec := { name := "cipherPlain", fn := fun _ => fun
  | [d1, d2, d3] => { results := [.lit (.bool true)], args := [d1, d2, d3] }
  | _ => none }
def cipherPlainRow : OpenClaim := { program := "ytdancpcnjklifaadoor", sum := "3b0d3a5c09bfca570b95ae49d3d40bb1362ded76278e8a72cbcc66ecb96c9378", func := "hatchway/hatchwaylaw09.CipherPlain", spec := "cipherPlain", inPlace := ["math/bits.Add64"], unfollowed := true, recurses := true, named := ["hatchway/blake.iv", "hatchway/blake.rows"], apart := false, laid := [("hatchway/blake.iv", laid_hatchway_blake_iv), ("hatchway/blake.rows", laid_hatchway_blake_rows)] }
def CipherPlainSaid : Prop := cipherPlainRow.holds Tryd.pinned (OpenSpec.ofChange cipherPlainSpec)

/-- ITS FALSE NEIGHBOUR: 'it returns false'. Refute it at one input. -/
def cipherPlainWrong : ChangeSpec := { name := "cipherPlain", fn := fun _ => fun
  | [d1, d2, d3] => { results := [.lit (.bool false)], args := [d1, d2, d3] }
  | _ => none }
def CipherPlainWrongFalsely : Prop := cipherPlainRow.holds Tryd.pinned (OpenSpec.ofChange cipherPlainWrong)

/-- 'hatchwaylaw09.CipherRekeys': WHATEVER THE INPUT: true; the input reads as it did. -/
def cipherRekeysSpec : ChangeSpec := { name := "cipherRekeys", fn := fun _ => fun
  | [d1, d2] => { results := [.lit (.bool true)], args := [d1, d2] }
  | _ => none }
def cipherRekeysRow : OpenClaim := { program := "ytdancpcnjklifaadoor", sum := "3b0d3a5c09bfca570b95ae49d3d40bb1362ded76278e8a72cbcc66ecb96c9378", func := "hatchway/hatchwaylaw09.CipherRekeys", spec := "cipherRekeys", inPlace := ["math/bits.Add64"], unfollowed := true, recurses := true, named := ["hatchway/blake.iv", "hatchway/blake.rows"], apart := false, laid := [("hatchway/blake.iv", laid_hatchway_blake_iv), ("hatchway/blake.rows", laid_hatchway_blake_rows)] }
def CipherRekeysSaid : Prop := cipherRekeysRow.holds Tryd.pinned (OpenSpec.ofChange cipherRekeysSpec)

/-- ITS FALSE NEIGHBOUR: 'it returns false'. Refute it at one input. -/
def cipherRekeysWrong : ChangeSpec := { name := "cipherRekeys", fn := fun _ => fun
  | [d1, d2] => { results := [.lit (.bool false)], args := [d1, d2] }
  | _ => none }
def CipherRekeysWrongFalsely : Prop := cipherRekeysRow.holds Tryd.pinned (OpenSpec.ofChange cipherRekeysWrong)

/-- 'hatchwaylaw09.CipherWrong': WHATEVER THE INPUT: true; the input reads as it did. -/
def cipherWrongSpec : ChangeSpec := { name := "cipherWrong", fn := fun _ => fun
  | [d1, d2, d3, d4] => { results := [.lit (.bool true)], args := [d1, d2, d3, d4] }
  | _ => none }
def cipherWrongRow : OpenClaim := { program := "ytdancpcnjklifaadoor", sum := "3b0d3a5c09bfca570b95ae49d3d40bb1362ded76278e8a72cbcc66ecb96c9378", func := "hatchway/hatchwaylaw09.CipherWrong", spec := "cipherWrong", inPlace := ["math/bits.Add64"], unfollowed := true, recurses := true, named := ["hatchway/blake.iv", "hatchway/blake.rows"], apart := false, laid := [("hatchway/blake.iv", laid_hatchway_blake_iv), ("hatchway/blake.rows", laid_hatchway_blake_rows)] }
def CipherWrongSaid : Prop := cipherWrongRow.holds Tryd.pinned (OpenSpec.ofChange cipherWrongSpec)

/-- ITS FALSE NEIGHBOUR: 'it returns false'. Refute it at one input. -/
def cipherWrongWrong : ChangeSpec := { name := "cipherWrong", fn := fun _ => fun
  | [d1, d2, d3, d4] => { results := [.lit (.bool false)], args := [d1, d2, d3, d4] }
  | _ => none }
def CipherWrongWrongFalsely : Prop := cipherWrongRow.holds Tryd.pinned (OpenSpec.ofChange cipherWrongWrong)

/- THE SECOND FORM. 'bulk': how many values and letters a reading holds, each counted each time it is reached (what is shared counts as often as it is met; a slice's spare places count too). A statement '..UptoSaid' is the law's where the arguments, and the package variables that the reading takes, are together of bulk at most 1048576: NARROWER than '..Said'. Prove '..Said' where nothing that the law and all that it calls make is longer than what came in: it says more and counts as full. Else prove '..UptoSaid'. A law counts once. -/
mutual
def uptoBulk {H : Type} : DataW H → Nat
  | .lit (.string bytes) => bytes.length + 1
  | .lit _ => 1
  | .nil => 1
  | .ptr d => uptoBulk d + 1
  | .slice elems spare => uptoBulkAll elems + uptoBulkAll spare + 1
  | .agg parts => uptoBulkAll parts + 1
  | .iface _ d => uptoBulk d + 1
  | .map entries => uptoBulkEntries entries + 1
  | .held _ => 1
def uptoBulkAll {H : Type} : List (DataW H) → Nat
  | [] => 0
  | d :: r => uptoBulk d + uptoBulkAll r
def uptoBulkEntries {H : Type} : List (Lit × DataW H) → Nat
  | [] => 0
  | x :: r => uptoBulkEntry x + uptoBulkEntries r
def uptoBulkEntry {H : Type} : Lit × DataW H → Nat
  | (.string bytes, d) => bytes.length + uptoBulk d + 1
  | (_, d) => uptoBulk d + 1
 end
def uptoSmall : (H : Type) → List (DataW H) → Bool := fun _ ds => decide (uptoBulkAll ds ≤ 1048576)
def OpenSpec.upto (s : _root_.Go.ChangeSpec) : _root_.Go.OpenSpec := { _root_.Go.OpenSpec.ofChange s with cond := some uptoSmall }

/-- 'hatchwaylaw09.CipherTells', WHERE WHAT IT READS IS OF BULK AT MOST 1048576: true; the input reads as it did. -/
def cipherTellsUptoRow : OpenClaim := { program := "ytdancpcnjklifaadoor", sum := "3b0d3a5c09bfca570b95ae49d3d40bb1362ded76278e8a72cbcc66ecb96c9378", func := "hatchway/hatchwaylaw09.CipherTells", spec := "cipherTells", inPlace := ["math/bits.Add64"], unfollowed := true, recurses := true, named := ["hatchway/blake.iv", "hatchway/blake.rows"], apart := false, laid := [("hatchway/blake.iv", laid_hatchway_blake_iv), ("hatchway/blake.rows", laid_hatchway_blake_rows)], narrowed := true }
def CipherTellsUptoSaid : Prop := cipherTellsUptoRow.holds Tryd.pinned (OpenSpec.upto cipherTellsSpec)

/-- 'hatchwaylaw09.CipherOnce', WHERE WHAT IT READS IS OF BULK AT MOST 1048576: true; the input reads as it did. -/
def cipherOnceUptoRow : OpenClaim := { program := "ytdancpcnjklifaadoor", sum := "3b0d3a5c09bfca570b95ae49d3d40bb1362ded76278e8a72cbcc66ecb96c9378", func := "hatchway/hatchwaylaw09.CipherOnce", spec := "cipherOnce", inPlace := ["math/bits.Add64"], unfollowed := true, recurses := true, named := ["hatchway/blake.iv", "hatchway/blake.rows"], apart := false, laid := [("hatchway/blake.iv", laid_hatchway_blake_iv), ("hatchway/blake.rows", laid_hatchway_blake_rows)], narrowed := true }
def CipherOnceUptoSaid : Prop := cipherOnceUptoRow.holds Tryd.pinned (OpenSpec.upto cipherOnceSpec)

/-- 'hatchwaylaw09.CipherBoth', WHERE WHAT IT READS IS OF BULK AT MOST 1048576: true; the input reads as it did. -/
def cipherBothUptoRow : OpenClaim := { program := "ytdancpcnjklifaadoor", sum := "3b0d3a5c09bfca570b95ae49d3d40bb1362ded76278e8a72cbcc66ecb96c9378", func := "hatchway/hatchwaylaw09.CipherBoth", spec := "cipherBoth", inPlace := ["math/bits.Add64"], unfollowed := true, recurses := true, named := ["hatchway/blake.iv", "hatchway/blake.rows"], apart := false, laid := [("hatchway/blake.iv", laid_hatchway_blake_iv), ("hatchway/blake.rows", laid_hatchway_blake_rows)], narrowed := true }
def CipherBothUptoSaid : Prop := cipherBothUptoRow.holds Tryd.pinned (OpenSpec.upto cipherBothSpec)

/-- 'hatchwaylaw09.CipherPlain', WHERE WHAT IT READS IS OF BULK AT MOST 1048576: true; the input reads as it did. -/
def cipherPlainUptoRow : OpenClaim := { program := "ytdancpcnjklifaadoor", sum := "3b0d3a5c09bfca570b95ae49d3d40bb1362ded76278e8a72cbcc66ecb96c9378", func := "hatchway/hatchwaylaw09.CipherPlain", spec := "cipherPlain", inPlace := ["math/bits.Add64"], unfollowed := true, recurses := true, named := ["hatchway/blake.iv", "hatchway/blake.rows"], apart := false, laid := [("hatchway/blake.iv", laid_hatchway_blake_iv), ("hatchway/blake.rows", laid_hatchway_blake_rows)], narrowed := true }
def CipherPlainUptoSaid : Prop := cipherPlainUptoRow.holds Tryd.pinned (OpenSpec.upto cipherPlainSpec)

/-- 'hatchwaylaw09.CipherRekeys', WHERE WHAT IT READS IS OF BULK AT MOST 1048576: true; the input reads as it did. -/
def cipherRekeysUptoRow : OpenClaim := { program := "ytdancpcnjklifaadoor", sum := "3b0d3a5c09bfca570b95ae49d3d40bb1362ded76278e8a72cbcc66ecb96c9378", func := "hatchway/hatchwaylaw09.CipherRekeys", spec := "cipherRekeys", inPlace := ["math/bits.Add64"], unfollowed := true, recurses := true, named := ["hatchway/blake.iv", "hatchway/blake.rows"], apart := false, laid := [("hatchway/blake.iv", laid_hatchway_blake_iv), ("hatchway/blake.rows", laid_hatchway_blake_rows)], narrowed := true }
def CipherRekeysUptoSaid : Prop := cipherRekeysUptoRow.holds Tryd.pinned (OpenSpec.upto cipherRekeysSpec)

/-- 'hatchwaylaw09.CipherWrong', WHERE WHAT IT READS IS OF BULK AT MOST 1048576: true; the input reads as it did. -/
def cipherWrongUptoRow : OpenClaim := { program := "ytdancpcnjklifaadoor", sum := "3b0d3a5c09bfca570b95ae49d3d40bb1362ded76278e8a72cbcc66ecb96c9378", func := "hatchway/hatchwaylaw09.CipherWrong", spec := "cipherWrong", inPlace := ["math/bits.Add64"], unfollowed := true, recurses := true, named := ["hatchway/blake.iv", "hatchway/blake.rows"], apart := false, laid := [("hatchway/blake.iv", laid_hatchway_blake_iv), ("hatchway/blake.rows", laid_hatchway_blake_rows)], narrowed := true }
def CipherWrongUptoSaid : Prop := cipherWrongUptoRow.holds Tryd.pinned (OpenSpec.upto cipherWrongSpec)

end Rows
end Go.Proofs.YtdancpcnjklifaaDoor
