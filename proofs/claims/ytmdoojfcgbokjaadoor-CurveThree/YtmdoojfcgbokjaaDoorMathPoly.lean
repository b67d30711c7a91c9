/- Plain facts on tags: parts of sixteen bytes, reckoned modulo 2^130 - 5. No program is named here. -/
import Derived.Test.YtmdoojfcgbokjaaDoorBase
import Derived.Test.YtmdoojfcgbokjaaDoorMathDig
namespace Go.Proofs.YtmdoojfcgbokjaaDoor
set_option linter.unusedVariables false
open Go.RowKit

/-- A byte of the key's first half, without the bits that do not count. -/
def clamp1 (i : Nat) (c : UInt8) : UInt8 := if i % 4 = 3 then UInt8.ofNat (c.toNat % 16) else if i % 4 = 0 ∧ i ≠ 0 then UInt8.ofNat (c.toNat / 4 * 4) else c
def clampB (key : List UInt8) : List UInt8 := (List.range 16).map fun i => clamp1 i (at8 key i)
theorem clampB_length (key : List UInt8) : (clampB key).length = 16 := by simp [clampB]
theorem clampB_at (key : List UInt8) (i : Nat) (h : i < 16) : at8 (clampB key) i = clamp1 i (at8 key i) := by
  rw [at8_get _ _ (by rw [clampB_length]; exact h)]
  simp [clampB]
def polyR (key : List UInt8) : Nat := leN (clampB key)
def polyS (key : List UInt8) : Nat := leN (cutB key 16 16)
def P1305 : Nat := 2 ^ 130 - 5
/-- A part, with a byte 1 behind it, as a number. -/
def partN (l : List UInt8) (k : Nat) : Nat := leN (cutB l (16 * k) 16 ++ [1])
def polyTo (r : Nat) (l : List UInt8) : Nat → Nat
  | 0 => 0
  | k + 1 => (polyTo r l k + partN l k) * r % P1305
def polyN (len : Nat) : Nat := (len + 15) / 16
def tag (key l : List UInt8) : List UInt8 := leB 16 (polyTo (polyR key) l (polyN l.length) + polyS key)
theorem tag_length (key l : List UInt8) : (tag key l).length = 16 := leB_length _ _
theorem polyTo_lt (r : Nat) (l : List UInt8) (k : Nat) : polyTo r l k < P1305 := by
  cases k with
  | zero => show 0 < P1305; decide
  | succ k => exact Nat.mod_lt _ (by decide)
theorem partN_lt (l : List UInt8) (k : Nat) : partN l k < 256 ^ 17 := by
  have h := leN_lt (cutB l (16 * k) 16 ++ [1])
  have h2 : (cutB l (16 * k) 16 ++ [1]).length ≤ 17 := by simp [cutB]; omega
  exact Nat.lt_of_lt_of_le h (Nat.pow_le_pow_right (by decide) h2)
theorem polyR_lt (key : List UInt8) : polyR key < 256 ^ 16 := by
  have := leN_lt (clampB key)
  rwa [clampB_length] at this
theorem polyS_lt (key : List UInt8) : polyS key < 256 ^ 16 := by
  have h := leN_lt (cutB key 16 16)
  have h2 : (cutB key 16 16).length ≤ 16 := by simp [cutB]; omega
  exact Nat.lt_of_lt_of_le h (Nat.pow_le_pow_right (by decide) h2)
/-- The digits of bytes, and back. -/
theorem valD_bytes : ∀ l : List UInt8, valD (l.map fun c => c.toNat) = leN l
  | [] => rfl
  | c :: r => by simp only [List.map_cons, valD, valD_bytes r, leN]
theorem leB_at (k n i : Nat) (h : i < k) : (at8 (leB k n) i).toNat = n / 256 ^ i % 256 := by
  rw [at8_get _ _ (by rw [leB_length]; exact h), leB_get k n i h]
  simp
end Go.Proofs.YtmdoojfcgbokjaaDoor
