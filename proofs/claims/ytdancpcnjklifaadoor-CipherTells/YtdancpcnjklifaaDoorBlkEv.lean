/- Two sums, reckoned by the kernel. No program is named here. -/
import Derived.Test.YtdancpcnjklifaaDoorMathX
namespace Go.Proofs.YtdancpcnjklifaaDoor
set_option maxRecDepth 100000

theorem blake_abc : at8 (blakeB [97, 98, 99]) 0 = 0x50 ∧ at8 (blakeB [97, 98, 99]) 1 = 0x8c ∧ at8 (blakeB [97, 98, 99]) 2 = 0x5e ∧ at8 (blakeB [97, 98, 99]) 31 = 0x82 := by decide +kernel
theorem blake_ab : at8 (blakeB [97, 98]) 0 ≠ 0 := by decide +kernel
end Go.Proofs.YtdancpcnjklifaaDoor
