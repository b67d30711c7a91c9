/- The walks over words.Rot, words.crcByte and words.Crc: what each call answers, whatever it is handed. -/
import Derived.Test.YtciolibeonlijaaRows
import Derived.Test.YtciolibeonlijaaMath1
import Derived.Test.YtciolibeonlijaaMath2
import Derived.WalkKit
import Derived.WalkSpells
import Derived.WalkLawsBesides
namespace Go.Proofs.Ytciolibeonlijaa
set_option maxRecDepth 100000
open Go.RowKit

theorem ret_int {k : IntKind} {a b : Int} (h : a = b) : Ending.returned (.int k a) = .returned (.int k b) := by rw [h]

theorem crc_step (x : BitVec 32) (c : UInt8) : bits .xor .u32 (x.toNat : Int) (c.toNat : Int) = ((x ^^^ wide c).toNat : Int) := by
  have hc := c.toNat_lt
  have e : (c.toNat : Int) = ((wide c).toNat : Int) := by
    unfold wide; rw [BitVec.toNat_ofNat]; omega
  rw [e, xor_val]
theorem not_val (y : BitVec 32) : bits .xor .u32 IntKind.u32.max (y.toNat : Int) = ((~~~ y).toNat : Int) := by
  have e : IntKind.u32.max = ((BitVec.allOnes 32).toNat : Int) := by decide
  rw [e, xor_val, BitVec.not_def, BitVec.xor_comm]
theorem crcAll_snoc (s : BitVec 32) (l : List UInt8) (k : Nat) (h : k < l.length) : crcAll s (l.take (k + 1)) = crcBits 8 (crcAll s (l.take k) ^^^ wide (at8 l k)) := by
  rw [List.take_succ_eq_append_getElem h, crcAll_append]
  simp [crcAll, crcNext, at8_get l k h]

end Go.Proofs.Ytciolibeonlijaa
