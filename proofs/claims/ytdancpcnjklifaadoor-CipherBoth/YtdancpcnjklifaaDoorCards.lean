/-
  DERIVED. GIVEN WITH THE SEED: THE CARDS: each row of YtdancpcnjklifaaDoorRows.lean that lists a variable, with what it lists TIED to the program's text (the seventh form; the later family's looks); each row that meets fmt, with fmt's text TOLD by the authors' own Lean function (tested against real Go, not proved from fmt's source: count such statements apart). THE CARD IS WHAT COUNTS. Prove the row's statement (the work); the ties are given (YtdancpcnjklifaaDoorTie.lean); close each card by the builder's one call (the guide's Derived/Test/ToyasCard.lean, 'card_holds'). Laid BY PROGRAM, IN A SANDBOX (cutbox-door.mjs). By AI agents, Wed Nov 11 2026. No macro, syntax, notation, axiom, sorry.
-/
import Derived.Test.YtdancpcnjklifaaDoorRows
import GoSem.ClaimSeven
namespace Go.Proofs.YtdancpcnjklifaaDoor
namespace Rows

/-- THE TIED CARD OF 'hatchwaylaw09.CipherTells'. -/
def cipherTellsCard : Claim7 := { stood := { row := cipherTellsRow, standIns := [], harness := (true, "dee5506bb45487780ba701ca490940875a33161daec1e866b30fe0c1373f93e3"), looks := false }, kinds := [], alts := [], laidByText := true, laidKinds := [.data, .data], laidTests := true, laidLooks := .later }
def CipherTellsCardSaid : Prop := Claim7.holds Tryd.pinned (.plain (OpenSpec.ofChange cipherTellsSpec)) cipherTellsCard

/-- THE TIED CARD OF 'hatchwaylaw09.CipherOnce'. -/
def cipherOnceCard : Claim7 := { stood := { row := cipherOnceRow, standIns := [], harness := (true, "dee5506bb45487780ba701ca490940875a33161daec1e866b30fe0c1373f93e3"), looks := false }, kinds := [], alts := [], laidByText := true, laidKinds := [.data, .data], laidTests := true, laidLooks := .later }
def CipherOnceCardSaid : Prop := Claim7.holds Tryd.pinned (.plain (OpenSpec.ofChange cipherOnceSpec)) cipherOnceCard

/-- THE TIED CARD OF 'hatchwaylaw09.CipherBoth'. -/
def cipherBothCard : Claim7 := { stood := { row := cipherBothRow, standIns := [], harness := (true, "dee5506bb45487780ba701ca490940875a33161daec1e866b30fe0c1373f93e3"), looks := false }, kinds := [], alts := [], laidByText := true, laidKinds := [.data, .data], laidTests := true, laidLooks := .later }
def CipherBothCardSaid : Prop := Claim7.holds Tryd.pinned (.plain (OpenSpec.ofChange cipherBothSpec)) cipherBothCard

/-- THE TIED CARD OF 'hatchwaylaw09.CipherPlain'. -/
def cipherPlainCard : Claim7 := { stood := { row := cipherPlainRow, standIns := [], harness := (true, "dee5506bb45487780ba701ca490940875a33161daec1e866b30fe0c1373f93e3"), looks := false }, kinds := [], alts := [], laidByText := true, laidKinds := [.data, .data], laidTests := true, laidLooks := .later }
def CipherPlainCardSaid : Prop := Claim7.holds Tryd.pinned (.plain (OpenSpec.ofChange cipherPlainSpec)) cipherPlainCard

/-- THE TIED CARD OF 'hatchwaylaw09.CipherRekeys'. -/
def cipherRekeysCard : Claim7 := { stood := { row := cipherRekeysRow, standIns := [], harness := (true, "dee5506bb45487780ba701ca490940875a33161daec1e866b30fe0c1373f93e3"), looks := false }, kinds := [], alts := [], laidByText := true, laidKinds := [.data, .data], laidTests := true, laidLooks := .later }
def CipherRekeysCardSaid : Prop := Claim7.holds Tryd.pinned (.plain (OpenSpec.ofChange cipherRekeysSpec)) cipherRekeysCard

/-- THE TIED CARD OF 'hatchwaylaw09.CipherWrong'. -/
def cipherWrongCard : Claim7 := { stood := { row := cipherWrongRow, standIns := [], harness := (true, "dee5506bb45487780ba701ca490940875a33161daec1e866b30fe0c1373f93e3"), looks := false }, kinds := [], alts := [], laidByText := true, laidKinds := [.data, .data], laidTests := true, laidLooks := .later }
def CipherWrongCardSaid : Prop := Claim7.holds Tryd.pinned (.plain (OpenSpec.ofChange cipherWrongSpec)) cipherWrongCard

/-- THE SECOND FORM's CARD OF 'hatchwaylaw09.CipherTells'. -/
def cipherTellsUptoCard : Claim7 := { stood := { row := cipherTellsUptoRow, standIns := [], harness := (true, "dee5506bb45487780ba701ca490940875a33161daec1e866b30fe0c1373f93e3"), looks := false }, kinds := [], alts := [], laidByText := true, laidKinds := [.data, .data], laidTests := true, laidLooks := .later }
def CipherTellsUptoCardSaid : Prop := Claim7.holds Tryd.pinned (.plain (OpenSpec.upto cipherTellsSpec)) cipherTellsUptoCard

/-- THE SECOND FORM's CARD OF 'hatchwaylaw09.CipherOnce'. -/
def cipherOnceUptoCard : Claim7 := { stood := { row := cipherOnceUptoRow, standIns := [], harness := (true, "dee5506bb45487780ba701ca490940875a33161daec1e866b30fe0c1373f93e3"), looks := false }, kinds := [], alts := [], laidByText := true, laidKinds := [.data, .data], laidTests := true, laidLooks := .later }
def CipherOnceUptoCardSaid : Prop := Claim7.holds Tryd.pinned (.plain (OpenSpec.upto cipherOnceSpec)) cipherOnceUptoCard

/-- THE SECOND FORM's CARD OF 'hatchwaylaw09.CipherBoth'. -/
def cipherBothUptoCard : Claim7 := { stood := { row := cipherBothUptoRow, standIns := [], harness := (true, "dee5506bb45487780ba701ca490940875a33161daec1e866b30fe0c1373f93e3"), looks := false }, kinds := [], alts := [], laidByText := true, laidKinds := [.data, .data], laidTests := true, laidLooks := .later }
def CipherBothUptoCardSaid : Prop := Claim7.holds Tryd.pinned (.plain (OpenSpec.upto cipherBothSpec)) cipherBothUptoCard

/-- THE SECOND FORM's CARD OF 'hatchwaylaw09.CipherPlain'. -/
def cipherPlainUptoCard : Claim7 := { stood := { row := cipherPlainUptoRow, standIns := [], harness := (true, "dee5506bb45487780ba701ca490940875a33161daec1e866b30fe0c1373f93e3"), looks := false }, kinds := [], alts := [], laidByText := true, laidKinds := [.data, .data], laidTests := true, laidLooks := .later }
def CipherPlainUptoCardSaid : Prop := Claim7.holds Tryd.pinned (.plain (OpenSpec.upto cipherPlainSpec)) cipherPlainUptoCard

/-- THE SECOND FORM's CARD OF 'hatchwaylaw09.CipherRekeys'. -/
def cipherRekeysUptoCard : Claim7 := { stood := { row := cipherRekeysUptoRow, standIns := [], harness := (true, "dee5506bb45487780ba701ca490940875a33161daec1e866b30fe0c1373f93e3"), looks := false }, kinds := [], alts := [], laidByText := true, laidKinds := [.data, .data], laidTests := true, laidLooks := .later }
def CipherRekeysUptoCardSaid : Prop := Claim7.holds Tryd.pinned (.plain (OpenSpec.upto cipherRekeysSpec)) cipherRekeysUptoCard

/-- THE SECOND FORM's CARD OF 'hatchwaylaw09.CipherWrong'. -/
def cipherWrongUptoCard : Claim7 := { stood := { row := cipherWrongUptoRow, standIns := [], harness := (true, "dee5506bb45487780ba701ca490940875a33161daec1e866b30fe0c1373f93e3"), looks := false }, kinds := [], alts := [], laidByText := true, laidKinds := [.data, .data], laidTests := true, laidLooks := .later }
def CipherWrongUptoCardSaid : Prop := Claim7.holds Tryd.pinned (.plain (OpenSpec.upto cipherWrongSpec)) cipherWrongUptoCard
end Rows
end Go.Proofs.YtdancpcnjklifaaDoor
