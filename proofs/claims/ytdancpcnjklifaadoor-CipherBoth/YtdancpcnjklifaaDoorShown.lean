/- The walk over the law's own 'shown': what must be in any case is. -/
import Derived.Test.YtdancpcnjklifaaDoorWalkE
import Derived.Test.YtdancpcnjklifaaDoorBase
namespace Go.Proofs.YtdancpcnjklifaaDoor
set_option maxRecDepth 100000
open Go.RowKit
theorem Fr.from_ {w w' : World} {qb : Nat} {a a' : Option Addr} (h : Fr w w' qb a a') {B : Nat} (hB : B ≤ w.heap.size) (ha : ∀ j, blockOf a = some j → B ≤ j) : ∀ j, blockOf a' = some j → B ≤ j := by
  intro j hj
  rcases h.fresh with e | e
  · exact ha j (by rw [← e]; exact hj)
  · have := e j hj; omega

theorem rot_shown (w : World) : Calls Tryd.prog 99 #[.int .u32 2147483649, .int .i64 1] w fun e w' => e = .returned (.int .u32 3) ∧ w' = w := by
  have h := rot_any 0x80000001#32 1 w
  have e1 : (((0x80000001#32).toNat : Nat) : Int) = 2147483649 := by decide
  have e2 : ((rotl 0x80000001#32 1).toNat : Int) = 3 := by decide
  rw [e1, e2] at h
  exact h
def digits : List UInt8 := [49, 50, 51, 52, 53, 54, 55, 56, 57]
end Go.Proofs.YtdancpcnjklifaaDoor
