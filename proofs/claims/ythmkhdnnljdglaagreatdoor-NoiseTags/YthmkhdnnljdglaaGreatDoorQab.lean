import Derived.WalkKit
import Derived.Test.YthmkhdnnljdglaaGreatDoorQaa
namespace Go.Proofs.YthmkhdnnljdglaaGreatDoor
set_option linter.unusedVariables false
set_option maxRecDepth 100000
def dig (n:Nat):List Nat:=if h:n = 0 then [] else n % 256 :: dig (n / 256)
def atD (l:List Nat) (i:Nat):Nat:=l.getD i 0
theorem atD_get (l:List Nat) (i:Nat) (h:i < l.length):atD l i = l[i]:=by simp [atD,h]
theorem atD_out (l:List Nat) (i:Nat) (h:l.length ≤ i):atD l i = 0:=by simp [atD,List.getElem?_eq_none h]
theorem atD_mem (l:List Nat) (i:Nat) (h:i < l.length):atD l i ∈ l:=by rw [atD_get l i h];exact List.getElem_mem h
theorem take_snoc (l:List Nat) (k:Nat) (h:k < l.length):l.take (k + 1) = l.take k ++ [atD l k]:=by
 rw [List.take_succ_eq_append_getElem h,atD_get l k h]
theorem atD_set_other (l:List Nat) (i j x:Nat) (h:i ≠ j):atD (l.set i x) j = atD l j:=by simp [atD,List.getElem?_set_ne h]
end Go.Proofs.YthmkhdnnljdglaaGreatDoor
namespace Go.Proofs.YthmkhdnnljdglaaGreatDoor
set_option linter.unusedVariables false
set_option maxRecDepth 100000
open Go.RowKit
def clamp1 (i:Nat) (c:UInt8):UInt8:=if i % 4 = 3 then UInt8.ofNat (c.toNat % 16) else if i % 4 = 0 ∧ i ≠ 0 then UInt8.ofNat (c.toNat / 4 * 4) else c
def clampB (key:List UInt8):List UInt8:=(List.range 16).map fun i => clamp1 i (at8 key i)
theorem clampB_length (key:List UInt8):(clampB key).length = 16:=by simp [clampB]
def polyR (key:List UInt8):Nat:=leN (clampB key)
def polyS (key:List UInt8):Nat:=leN (cutB key 16 16)
def P1305:Nat:=2 ^ 130 - 5
def partN (l:List UInt8) (k:Nat):Nat:=leN (cutB l (16 * k) 16 ++ [1])
def polyTo (r:Nat) (l:List UInt8):Nat → Nat
 | 0 => 0
 | k + 1 => (polyTo r l k + partN l k) * r % P1305
def polyN (len:Nat):Nat:=(len + 15) / 16
def tag (key l:List UInt8):List UInt8:=leB 16 (polyTo (polyR key) l (polyN l.length) + polyS key)
theorem tag_length (key l:List UInt8):(tag key l).length = 16:=leB_length _ _
theorem polyR_lt (key:List UInt8):polyR key < 256 ^ 16:=by
 have:=leN_lt (clampB key)
 rwa [clampB_length] at this
theorem polyS_lt (key:List UInt8):polyS key < 256 ^ 16:=by
 have h:=leN_lt (cutB key 16 16)
 have h2:(cutB key 16 16).length ≤ 16:=by simp [cutB];omega
 exact Nat.lt_of_lt_of_le h (Nat.pow_le_pow_right (by decide) h2)
def padN (n:Nat):Nat:=(16 - n % 16) % 16
def pad16 (l:List UInt8):List UInt8:=l ++ List.replicate (padN l.length) 0
theorem pad16_length (l:List UInt8):(pad16 l).length = l.length + padN l.length:=by simp [pad16]
theorem pad16_mod (l:List UInt8):(l.length + padN l.length) % 16 = 0:=by unfold padN;omega
def tagged (ad ct:List UInt8):List UInt8:=pad16 ad ++ pad16 ct ++ leB 8 ad.length ++ leB 8 ct.length
def aeadTag (key nonce ad ct:List UInt8):List UInt8:=tag ((blk key 0#32 nonce).take 32) (tagged ad ct)
theorem aeadTag_length (key nonce ad ct:List UInt8):(aeadTag key nonce ad ct).length = 16:=tag_length _ _
def sealB (key nonce ad b:List UInt8):List UInt8:=stm key 1#32 nonce b ++ aeadTag key nonce ad (stm key 1#32 nonce b)
theorem sealB_length (key nonce ad b:List UInt8):(sealB key nonce ad b).length = b.length + 16:=by rw [sealB,List.length_append,stm_length,aeadTag_length]
def Sealed (key nonce ad b:List UInt8):Prop:=16 ≤ b.length ∧ b.drop (b.length - 16) = aeadTag key nonce ad (b.take (b.length - 16))
def openB (key nonce b:List UInt8):List UInt8:=stm key 1#32 nonce (b.take (b.length - 16))
theorem sealB_take (key nonce ad b:List UInt8):(sealB key nonce ad b).take b.length = stm key 1#32 nonce b:=by
 unfold sealB
 rw [← stm_length key 1#32 nonce b,List.take_left]
theorem sealB_drop (key nonce ad b:List UInt8):(sealB key nonce ad b).drop b.length = aeadTag key nonce ad (stm key 1#32 nonce b):=by
 unfold sealB
 rw [← stm_length key 1#32 nonce b,List.drop_left]
theorem sealed_seal (key nonce ad b:List UInt8):Sealed key nonce ad (sealB key nonce ad b):=by
 unfold Sealed
 rw [sealB_length,Nat.add_sub_cancel,sealB_take,sealB_drop]
 exact ⟨by omega,rfl⟩
theorem open_seal (key nonce ad b:List UInt8):openB key nonce (sealB key nonce ad b) = b:=by
 unfold openB
 rw [sealB_length,Nat.add_sub_cancel,sealB_take,stm_twice]
end Go.Proofs.YthmkhdnnljdglaaGreatDoor
