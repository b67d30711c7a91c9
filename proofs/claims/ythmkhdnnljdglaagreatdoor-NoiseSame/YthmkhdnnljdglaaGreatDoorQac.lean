import Derived.Test.YthmkhdnnljdglaaGreatDoorQaa
namespace Go.Proofs.YthmkhdnnljdglaaGreatDoor
set_option linter.unusedVariables false
set_option maxRecDepth 100000
open Go.RowKit
def rotr (x:BitVec 32) (n:Int):BitVec 32:=rotl x (32 - n)
def badd3 (v:List (BitVec 32)) (a b:Nat) (x:BitVec 32):List (BitVec 32):=v.set a (at32 v a + at32 v b + x)
def badd2 (v:List (BitVec 32)) (c d:Nat):List (BitVec 32):=v.set c (at32 v c + at32 v d)
def brot (v:List (BitVec 32)) (d a:Nat) (n:Int):List (BitVec 32):=v.set d (rotr (at32 v d ^^^ at32 v a) n)
def bmix (v:List (BitVec 32)) (a b c d:Nat) (x y:BitVec 32):List (BitVec 32):=
 brot (badd2 (brot (badd3 (brot (badd2 (brot (badd3 v a b x) d a 16) c d) b c 12) a b y) d a 8) c d) b c 7
theorem bmix_length (v:List (BitVec 32)) (a b c d:Nat) (x y:BitVec 32):(bmix v a b c d x y).length = v.length:=by simp [bmix,brot,badd2,badd3]
def ivB:List (BitVec 32):=[0x6a09e667#32,0xbb67ae85#32,0x3c6ef372#32,0xa54ff53a#32,0x510e527f#32,0x9b05688c#32,0x1f83d9ab#32,0x5be0cd19#32]
def sigma:List (List Nat):=[
 [0,1,2,3,4,5,6,7,8,9,10,11,12,13,14,15],
 [14,10,4,8,9,15,13,6,1,12,0,2,11,7,5,3],
 [11,8,12,0,5,2,15,13,10,14,3,6,7,1,9,4],
 [7,9,3,1,13,12,11,14,2,6,5,10,4,0,15,8],
 [9,0,5,7,2,4,10,15,14,1,11,12,6,8,3,13],
 [2,12,6,10,0,11,8,3,4,13,7,5,15,14,1,9],
 [12,5,1,15,14,13,4,10,0,7,6,3,9,2,8,11],
 [13,11,7,14,12,1,3,9,5,0,15,4,8,6,2,10],
 [6,15,14,9,11,3,0,8,12,2,13,7,1,4,10,5],
 [10,2,8,4,7,6,1,5,15,11,9,14,3,12,13,0]]
def sig (i k:Nat):Nat:=(sigma.getD i []).getD k 0
theorem sig_lt:∀ i k:Nat,i < 10 → k < 16 → sig i k < 16:=by
 have h:∀ i:Fin 10,∀ k:Fin 16,sig i.val k.val < 16:=by decide
 intro i k hi hk
 exact h ⟨i,hi⟩ ⟨k,hk⟩
def bcols (i:Nat) (m:List (BitVec 32)):Nat → List (BitVec 32) → List (BitVec 32)
 | 0,v => v
 | k + 1,v => bmix (bcols i m k v) k (4 + k) (8 + k) (12 + k) (at32 m (sig i (2 * k))) (at32 m (sig i (2 * k + 1)))
def bslants (i:Nat) (m:List (BitVec 32)):Nat → List (BitVec 32) → List (BitVec 32)
 | 0,v => v
 | k + 1,v => bmix (bslants i m k v) k (4 + (k + 1) % 4) (8 + (k + 2) % 4) (12 + (k + 3) % 4) (at32 m (sig i (8 + 2 * k))) (at32 m (sig i (9 + 2 * k)))
def bturned (m:List (BitVec 32)):Nat → List (BitVec 32) → List (BitVec 32)
 | 0,v => v
 | i + 1,v => bslants i m 4 (bcols i m 4 (bturned m i v))
theorem bcols_length (i:Nat) (m v:List (BitVec 32)):∀ k,(bcols i m k v).length = v.length
 | 0 => rfl
 | k + 1 => by rw [bcols,bmix_length,bcols_length i m v k]
theorem bslants_length (i:Nat) (m v:List (BitVec 32)):∀ k,(bslants i m k v).length = v.length
 | 0 => rfl
 | k + 1 => by rw [bslants,bmix_length,bslants_length i m v k]
theorem bturned_length (m v:List (BitVec 32)):∀ i,(bturned m i v).length = v.length
 | 0 => rfl
 | i + 1 => by rw [bturned,bslants_length,bcols_length,bturned_length m v i]
def bfirst (h:List (BitVec 32)) (t:Nat) (last:Bool):List (BitVec 32):=
 let v:=h ++ ivB
 let v1:=v.set 12 (at32 v 12 ^^^ BitVec.ofNat 32 t)
 let v2:=v1.set 13 (at32 v1 13 ^^^ BitVec.ofNat 32 (t / 4294967296))
 if last then v2.set 14 (at32 v2 14 ^^^ 0xffffffff#32) else v2
theorem bfirst_length (h:List (BitVec 32)) (t:Nat) (last:Bool) (hh:h.length = 8):(bfirst h t last).length = 16:=by
 unfold bfirst
 cases last <;> simp [hh,ivB]
def bpart (h:List (BitVec 32)) (b:List UInt8) (t:Nat) (last:Bool):List (BitVec 32):=
 (List.range 8).map fun i => at32 h i ^^^ at32 (bturned (wordsTo b 16) 10 (bfirst h t last)) i ^^^ at32 (bturned (wordsTo b 16) 10 (bfirst h t last)) (8 + i)
theorem bpart_length (h:List (BitVec 32)) (b:List UInt8) (t:Nat) (last:Bool):(bpart h b t last).length = 8:=by simp [bpart]
def bstart:List (BitVec 32):=ivB.set 0 0x6b08e647#32
def bparts (b:List UInt8):Nat → List (BitVec 32)
 | 0 => bstart
 | k + 1 => bpart (bparts b k) (cutB b (64 * k) 64) (64 * (k + 1)) false
def bahead (n:Nat):Nat:=(n - 1) / 64
def blast (b:List UInt8):List UInt8:=b.drop (64 * bahead b.length) ++ List.replicate (64 - (b.length - 64 * bahead b.length)) 0
theorem blast_length (b:List UInt8):(blast b).length = 64:=by
 unfold blast bahead
 simp
 omega
def wordsB:List (BitVec 32) → List UInt8
 | [] => []
 | x :: r => leB 4 x.toNat ++ wordsB r
theorem wordsB_append:∀ a b,wordsB (a ++ b) = wordsB a ++ wordsB b
 | [],b => rfl
 | x :: r,b => by rw [List.cons_append,wordsB,wordsB,wordsB_append r b,List.append_assoc]
theorem wordsB_length:∀ l,(wordsB l).length = 4 * l.length
 | [] => rfl
 | x :: r => by rw [wordsB,List.length_append,leB_length,wordsB_length r,List.length_cons];omega
def blakeB (b:List UInt8):List UInt8:=wordsB (bpart (bparts b (bahead b.length)) (blast b) b.length true)
theorem blakeB_length (b:List UInt8):(blakeB b).length = 32:=by rw [blakeB,wordsB_length,bpart_length]
end Go.Proofs.YthmkhdnnljdglaaGreatDoor
