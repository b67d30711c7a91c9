/- Plain facts on sums of a key, and keys of a key. No program is named here. -/
import Derived.Test.YthjkjfoelekeeaaDoorMathBlake
import Derived.Test.YthjkjfoelekeeaaDoorBase
namespace Go.Proofs.YthjkjfoelekeeaaDoor
set_option linter.unusedVariables false
open Go.RowKit

/-- A key, or its sum, with 0s behind it. -/
def kshort (key : List UInt8) : List UInt8 := if 64 < key.length then blakeB key else key
theorem kshort_length (key : List UInt8) : (kshort key).length ≤ 64 := by
  unfold kshort
  split
  · rw [blakeB_length]; omega
  · omega
def kpad (key : List UInt8) : List UInt8 := kshort key ++ List.replicate (64 - (kshort key).length) 0
theorem kpad_length (key : List UInt8) : (kpad key).length = 64 := by
  have := kshort_length key
  simp [kpad]; omega
def allB (c : UInt8) : List UInt8 := List.replicate 64 c
def kin (key b : List UInt8) : List UInt8 := xorB (kpad key) (allB 0x36) ++ b
def kout (key b : List UInt8) : List UInt8 := xorB (kpad key) (allB 0x5c) ++ blakeB (kin key b)
def macB (key b : List UInt8) : List UInt8 := blakeB (kout key b)
theorem macB_length (key b : List UInt8) : (macB key b).length = 32 := blakeB_length _
theorem xor_pad_length (key : List UInt8) (c : UInt8) : (xorB (kpad key) (allB c)).length = 64 := by rw [xorB_length, kpad_length]; simp [allB]
def der1 (key b : List UInt8) : List UInt8 := macB (macB key b) [1]
def der2 (key b : List UInt8) : List UInt8 := macB (macB key b) (der1 key b ++ [2])
def der3 (key b : List UInt8) : List UInt8 := macB (macB key b) (der2 key b ++ [3])
theorem der1_length (key b : List UInt8) : (der1 key b).length = 32 := macB_length _ _
theorem der2_length (key b : List UInt8) : (der2 key b).length = 32 := macB_length _ _
theorem der3_length (key b : List UInt8) : (der3 key b).length = 32 := macB_length _ _
end Go.Proofs.YthjkjfoelekeeaaDoor
