/- WordsSizes: as many bytes are put as are asked for, from none to eight; as many are got as there are. For every size, number and order, without a condition. -/
import Derived.Test.YtgfpoedgbhfkaaaFrame
namespace Go.Proofs.Ytgfpoedgbhfkaaa
open Go.RowKit
theorem u64_of (a : Int) (h : (Lit.int .u64 a).wf = true) : ∃ n : Nat, a = (n : Int) ∧ n < 18446744073709551616 := by
  have hb : 0 ≤ a ∧ a ≤ 18446744073709551615 := by simpa [Lit.wf, IntKind.min, IntKind.max, IntKind.signed, IntKind.bits] using h
  exact ⟨a.toNat, by omega, by omega⟩
theorem i64_of (a : Int) (h : (Lit.int .i64 a).wf = true) : -9223372036854775808 ≤ a ∧ a ≤ 9223372036854775807 := by
  simpa [Lit.wf, IntKind.min, IntKind.max, IntKind.signed, IntKind.bits] using h
theorem valB_putB (sz n : Nat) (big : Bool) : valB (putB sz n big) big = n % 256 ^ sz := by
  cases big <;> simp [valB, putB, leN_leB]
theorem getV_putB (l : List UInt8) (sz n : Nat) (big : Bool) : getV (l ++ putB sz n big) big l.length sz = n % 256 ^ sz := by
  have e : cutB (l ++ putB sz n big) l.length sz = putB sz n big := by
    unfold cutB
    rw [List.drop_left]
    exact List.take_of_length_le (by rw [putB_length]; exact Nat.le_refl _)
  rw [getV, e, valB_putB]
theorem mask_val (n sz : Nat) (hn : n < 18446744073709551616) (h : sz < 8) : bits .and .u64 (n : Int) (IntKind.u64.wrap (IntKind.u64.wrap (2 ^ (8 * sz)) - 1)) = ((n % 256 ^ sz : Nat) : Int) := by
  have hp : (2 : Nat) ^ (8 * sz) ≤ 2 ^ 56 := Nat.pow_le_pow_right (by decide) (by omega)
  have hp0 : 0 < (2 : Nat) ^ (8 * sz) := Nat.two_pow_pos _
  have e0 : ((2 : Int) ^ (8 * sz)) = ((2 ^ (8 * sz) : Nat) : Int) := by simp
  have e1 : IntKind.u64.wrap (IntKind.u64.wrap (2 ^ (8 * sz)) - 1) = ((2 ^ (8 * sz) - 1 : Nat) : Int) := by
    rw [IntKind.wrap_u64, IntKind.wrap_u64, e0]; omega
  rw [e1, u64_and_nat _ _ hn (by omega), Nat.and_two_pow_sub_one_eq_mod, pow256]
end Go.Proofs.Ytgfpoedgbhfkaaa
namespace Go.Proofs.Ytgfpoedgbhfkaaa.wordsSizes
open Go.ChangeShapes Go.WideShapes Go.ChangeAt Go.RowKit
set_option linter.unusedVariables false
end Go.Proofs.Ytgfpoedgbhfkaaa.wordsSizes
