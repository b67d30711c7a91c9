/- Plain facts on what is sealed. No program is named here. -/
import Derived.Test.YtcnihgjibiidpaaMathCha
import Derived.Test.YtcnihgjibiidpaaMathPoly
namespace Go.Proofs.Ytcnihgjibiidpaa
set_option linter.unusedVariables false
open Go.RowKit

/-- Bytes, and 0s up to a multiple of sixteen. -/
def padN (n : Nat) : Nat := (16 - n % 16) % 16
def pad16 (l : List UInt8) : List UInt8 := l ++ List.replicate (padN l.length) 0
theorem pad16_length (l : List UInt8) : (pad16 l).length = l.length + padN l.length := by simp [pad16]
theorem pad16_mod (l : List UInt8) : (l.length + padN l.length) % 16 = 0 := by unfold padN; omega
/-- What the tag is of. -/
def tagged (ad ct : List UInt8) : List UInt8 := pad16 ad ++ pad16 ct ++ leB 8 ad.length ++ leB 8 ct.length
def aeadTag (key nonce ad ct : List UInt8) : List UInt8 := tag ((blk key 0#32 nonce).take 32) (tagged ad ct)
theorem aeadTag_length (key nonce ad ct : List UInt8) : (aeadTag key nonce ad ct).length = 16 := tag_length _ _
def sealB (key nonce ad b : List UInt8) : List UInt8 := stm key 1#32 nonce b ++ aeadTag key nonce ad (stm key 1#32 nonce b)
theorem sealB_length (key nonce ad b : List UInt8) : (sealB key nonce ad b).length = b.length + 16 := by rw [sealB, List.length_append, stm_length, aeadTag_length]
/-- Is the tag that of the others? -/
def Sealed (key nonce ad b : List UInt8) : Prop := 16 ≤ b.length ∧ b.drop (b.length - 16) = aeadTag key nonce ad (b.take (b.length - 16))
def openB (key nonce b : List UInt8) : List UInt8 := stm key 1#32 nonce (b.take (b.length - 16))
theorem sealB_take (key nonce ad b : List UInt8) : (sealB key nonce ad b).take b.length = stm key 1#32 nonce b := by
  unfold sealB
  rw [← stm_length key 1#32 nonce b, List.take_left]
theorem sealB_drop (key nonce ad b : List UInt8) : (sealB key nonce ad b).drop b.length = aeadTag key nonce ad (stm key 1#32 nonce b) := by
  unfold sealB
  rw [← stm_length key 1#32 nonce b, List.drop_left]
theorem sealed_seal (key nonce ad b : List UInt8) : Sealed key nonce ad (sealB key nonce ad b) := by
  unfold Sealed
  rw [sealB_length, Nat.add_sub_cancel, sealB_take, sealB_drop]
  exact ⟨by omega, rfl⟩
theorem open_seal (key nonce ad b : List UInt8) : openB key nonce (sealB key nonce ad b) = b := by
  unfold openB
  rw [sealB_length, Nat.add_sub_cancel, sealB_take, stm_twice]
end Go.Proofs.Ytcnihgjibiidpaa
