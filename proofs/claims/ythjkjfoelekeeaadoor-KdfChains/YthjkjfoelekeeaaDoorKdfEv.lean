/- What the keys of one key are: not each other, and not 0. No program is named here. -/
import Derived.Test.YthjkjfoelekeeaaDoorMathKdf
namespace Go.Proofs.YthjkjfoelekeeaaDoor

def kShKey : List UInt8 := 1 :: List.replicate 31 0
theorem shown_keys : at8 (der1 kShKey [120]) 0 ≠ at8 (der2 kShKey [120]) 0 ∧ at8 (der2 kShKey [120]) 0 ≠ at8 (der3 kShKey [120]) 0 ∧ at8 (der1 kShKey [120]) 0 ≠ 0 := by decide +kernel
end Go.Proofs.YthjkjfoelekeeaaDoor
