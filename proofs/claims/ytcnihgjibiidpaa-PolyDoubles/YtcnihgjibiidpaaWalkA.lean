/- The walks over words.Rot, words.crcByte and words.Crc: what each call answers, whatever it is handed. -/
import Derived.Test.YtcnihgjibiidpaaRows
import Derived.Test.YtcnihgjibiidpaaMath1
import Derived.Test.YtcnihgjibiidpaaMath2
import Derived.WalkKit
import Derived.WalkSpells
import Derived.WalkLawsBesides
namespace Go.Proofs.Ytcnihgjibiidpaa
open Go.RowKit

theorem ret_int {k : IntKind} {a b : Int} (h : a = b) : Ending.returned (.int k a) = .returned (.int k b) := by rw [h]

set_option maxHeartbeats 400000 in
set_option maxRecDepth 100000 in
theorem rotl_any (x : BitVec 32) (n : Int) (w : World) :
    Calls Try.prog 71 #[.int .u32 (x.toNat : Int), .int .i64 n] w fun e w' => e = .returned (.int .u32 ((rotl x n).toNat : Int)) ∧ w' = w := by
  have h1 := and31 n
  have h2 : 0 ≤ n % 32 := by omega
  have h3 : n % 32 ≤ 31 := by omega
  have H := rotl_val x n
  have HH : Hid (bits .or .u32 ((x.toNat : Int) * 2 ^ (n % 32).toNat % 4294967296) ((x.toNat : Int) / 2 ^ (32 - n % 32).toNat) = ((rotl x n).toNat : Int)) := H
  clear H
  go_enter Try.func71, Try.ntmps71
  go_wp2
  go_ret
  exact ⟨ret_int HH.out, rfl⟩

set_option maxHeartbeats 400000 in
set_option maxRecDepth 100000 in
theorem rot_any (x : BitVec 32) (n : Int) (w : World) :
    Calls Try.prog 69 #[.int .u32 (x.toNat : Int), .int .i64 n] w fun e w' => e = .returned (.int .u32 ((rotl x n).toNat : Int)) ∧ w' = w := by
  go_enter Try.func69, Try.ntmps69
  go_wp2_with (go_at_call 71; refine (rotl_any _ _ _).mono ?_; rintro e w' ⟨rfl, rfl⟩)
  go_ret
  exact ⟨rfl, rfl⟩

theorem crc_step (x : BitVec 32) (c : UInt8) : bits .xor .u32 (x.toNat : Int) (c.toNat : Int) = ((x ^^^ wide c).toNat : Int) := by
  have hc := c.toNat_lt
  have e : (c.toNat : Int) = ((wide c).toNat : Int) := by
    unfold wide; rw [BitVec.toNat_ofNat]; omega
  rw [e, xor_val]
theorem not_val (y : BitVec 32) : bits .xor .u32 IntKind.u32.max (y.toNat : Int) = ((~~~ y).toNat : Int) := by
  have e : IntKind.u32.max = ((BitVec.allOnes 32).toNat : Int) := by decide
  rw [e, xor_val, BitVec.not_def, BitVec.xor_comm]
theorem crcAll_snoc (s : BitVec 32) (l : List UInt8) (k : Nat) (h : k < l.length) : crcAll s (l.take (k + 1)) = crcBits 8 (crcAll s (l.take k) ^^^ wide (at8 l k)) := by
  rw [List.take_succ_eq_append_getElem h, crcAll_append]
  simp [crcAll, crcNext, at8_get l k h]

end Go.Proofs.Ytcnihgjibiidpaa
