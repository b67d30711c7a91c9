/- The walk over the document's Xor. -/
import Derived.Test.YtejbhjcopldekaaRefs
namespace Go.Proofs.Ytejbhjcopldekaa
set_option linter.unusedVariables false
set_option maxRecDepth 100000
open Go.RowKit
theorem or_sub_and (x y : UInt8) : (IntKind.u8.wrap (bits .or .u8 (x.toNat : Int) (y.toNat : Int) - bits .and .u8 (x.toNat : Int) (y.toNat : Int))) = ((x ^^^ y).toNat : Int) := by
  have hx := x.toNat_lt
  have hy := y.toNat_lt
  have e1 : x.toNat ||| y.toNat = (x.toNat ^^^ y.toNat) + (x.toNat &&& y.toNat) := by
    have hz : (x.toBitVec ^^^ y.toBitVec) &&& (x.toBitVec &&& y.toBitVec) = 0#8 := by
      apply BitVec.eq_of_getLsbD_eq
      intro i hi
      simp only [BitVec.getLsbD_and, BitVec.getLsbD_xor, BitVec.getLsbD_zero]
      cases x.toBitVec.getLsbD i <;> cases y.toBitVec.getLsbD i <;> rfl
    have ho : (x.toBitVec ^^^ y.toBitVec) ||| (x.toBitVec &&& y.toBitVec) = x.toBitVec ||| y.toBitVec := by
      apply BitVec.eq_of_getLsbD_eq
      intro i hi
      simp only [BitVec.getLsbD_and, BitVec.getLsbD_xor, BitVec.getLsbD_or]
      cases x.toBitVec.getLsbD i <;> cases y.toBitVec.getLsbD i <;> rfl
    have hs := BitVec.add_eq_or_of_and_eq_zero _ _ hz
    have h1 : (x.toNat ^^^ y.toNat) ||| (x.toNat &&& y.toNat) = x.toNat ||| y.toNat := by
      have := congrArg BitVec.toNat ho
      simpa using this
    have h2 := congrArg BitVec.toNat hs
    rw [BitVec.toNat_add] at h2
    simp only [BitVec.toNat_xor, BitVec.toNat_and, BitVec.toNat_or, UInt8.toNat_toBitVec] at h2
    have b1 : x.toNat ||| y.toNat < 2 ^ 8 := Nat.or_lt_two_pow hx hy
    rw [h1] at h2
    have b2 : (x.toNat ^^^ y.toNat) < 2 ^ 8 := Nat.xor_lt_two_pow hx hy
    have b3 : (x.toNat &&& y.toNat) < 2 ^ 8 := Nat.and_lt_two_pow _ hy
    have b4 : (x.toNat ^^^ y.toNat) ≤ x.toNat ||| y.toNat := by rw [← h1]; exact Nat.left_le_or
    have b5 : (x.toNat &&& y.toNat) ≤ x.toNat ||| y.toNat := by rw [← h1]; exact Nat.right_le_or
    omega
  rw [u8_or_nat _ _ hx hy, u8_and_nat _ _ hx hy, e1, UInt8.toNat_xor, IntKind.wrap_u8']
  have b2 : (x.toNat ^^^ y.toNat) < 2 ^ 8 := Nat.xor_lt_two_pow hx hy
  omega

end Go.Proofs.Ytejbhjcopldekaa
