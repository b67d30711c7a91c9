/- The walks over words.shift and words.Get: what each call answers. -/
import Derived.Test.YtciolibeonlijaaWalkA
namespace Go.Proofs.Ytciolibeonlijaa
set_option maxRecDepth 100000
open Go.RowKit

theorem ret_two {k : IntKind} {a b : Int} {v : Value} (h : a = b) : Ending.returned (.tuple #[.int k a, v]) = .returned (.tuple #[.int k b, v]) := by rw [h]
end Go.Proofs.Ytciolibeonlijaa
