/- That what is mixed in turns the hash of a name, once. No program is named here. -/
import Derived.Test.YtdancpcnjklifaaDoorMathX
namespace Go.Proofs.YtdancpcnjklifaaDoor
set_option maxRecDepth 100000

def cNm : List UInt8 := [110, 97, 109, 101]
theorem shown_mix : mixH (nameB cNm) [97, 98, 99] ≠ nameB cNm := by decide +kernel
end Go.Proofs.YtdancpcnjklifaaDoor
