import Derived.WalkKit
namespace Go.Proofs.YthmkhdnnljdglaaGreatDoor
set_option maxRecDepth 100000
open Go.RowKit
def rotl (x:BitVec 32) (n:Int):BitVec 32:=x.rotateLeft (n % 32).toNat
theorem and31 (n:Int):bits .and .u64 (IntKind.u64.wrap n) 31 = n % 32:=by
 rw [IntKind.wrap_u64,u64_and _ _ (by omega) (by omega) (by omega) (by omega)]
 have e:((31:Int).toNat) = 2 ^ 5 - 1:=by decide
 rw [e,Nat.and_two_pow_sub_one_eq_mod]
 omega
theorem rotl_val (x:BitVec 32) (n:Int) :
  bits .or .u32 ((x.toNat:Int) * 2 ^ (n % 32).toNat % 4294967296) ((x.toNat:Int) / 2 ^ (32 - n % 32).toNat) = ((rotl x n).toNat:Int):=by
 obtain ⟨s,hs⟩:∃ s:Nat,s = (n % 32).toNat:=⟨_,rfl⟩
 have hs32:s < 32:=by omega
 have e1:(32 - n % 32).toNat = 32 - s:=by omega
 have hx:=x.isLt
 have e2:((x.toNat:Int) * 2 ^ s % 4294967296) = ((x.toNat * 2 ^ s % 4294967296:Nat):Int):=by simp
 have e3:((x.toNat:Int) / 2 ^ (32 - s)) = ((x.toNat / 2 ^ (32 - s):Nat):Int):=by simp
 have b3:x.toNat / 2 ^ (32 - s) < 4294967296:=Nat.lt_of_le_of_lt (Nat.div_le_self _ _) (by simpa using hx)
 unfold rotl
 rw [e1,← hs,e2,e3,u32_or_nat _ _ (Nat.mod_lt _ (by decide)) b3,BitVec.toNat_rotateLeft,Nat.mod_eq_of_lt hs32,Nat.shiftLeft_eq,Nat.shiftRight_eq_div_pow]
theorem xor_val (y z:BitVec 32):bits .xor .u32 (y.toNat:Int) (z.toNat:Int) = ((y ^^^ z).toNat:Int):=by
 rw [u32_xor_nat _ _ (by have:=y.isLt;omega) (by have:=z.isLt;omega),BitVec.toNat_xor]
def at8 (l:List UInt8) (i:Nat):UInt8:=l.getD i 0
theorem at8_lt (l:List UInt8) (i:Nat):((at8 l i).toNat:Int) < 256:=by have:=(at8 l i).toNat_lt;omega
theorem at8_get (l:List UInt8) (i:Nat) (h:i < l.length):at8 l i = l[i]:=by simp [at8,h]
def Byt (w:World) (a:Option Addr) (len:Nat) (l:List UInt8):Prop:=
 l.length = len ∧ (len = 0 ∨ ∃ b off,a = some ⟨b,off,none⟩ ∧ ∀ i,i < len → w.cell? ⟨b,off + i,none⟩ = some (.int .u8 ((at8 l i).toNat:Int)))
def leN:List UInt8 → Nat
 | [] => 0
 | c :: r => c.toNat + 256 * leN r
def leB:Nat → Nat → List UInt8
 | 0,_ => []
 | k + 1,n => UInt8.ofNat (n % 256) :: leB k (n / 256)
def valB (bs:List UInt8) (big:Bool):Nat:=if big then leN bs.reverse else leN bs
def cutB (l:List UInt8) (at_ size:Nat):List UInt8:=(l.drop at_).take size
def getV (l:List UInt8) (big:Bool) (at_ size:Nat):Nat:=valB (cutB l at_ size) big
theorem cutB_length (l:List UInt8) (at_ size:Nat) (h:at_ + size ≤ l.length):(cutB l at_ size).length = size:=by simp [cutB];omega
theorem cutB_at (l:List UInt8) (at_ size i:Nat) (h:i < size):at8 (cutB l at_ size) i = at8 l (at_ + i):=by
 simp [at8,cutB,h]
def putB (size n:Nat) (big:Bool):List UInt8:=if big then (leB size n).reverse else leB size n
def posI (big:Bool) (size i:Int):Int:=if big then size - 1 - i else i
theorem leB_length:∀ k n,(leB k n).length = k
 | 0,_ => rfl
 | k + 1,n => by simp [leB,leB_length k]
theorem putB_length (size n:Nat) (big:Bool):(putB size n big).length = size:=by cases big <;> simp [putB,leB_length]
theorem leN_lt:∀ l:List UInt8,leN l < 256 ^ l.length
 | [] => by simp [leN]
 | c :: r => by
  have h:=leN_lt r
  have hc:=c.toNat_lt
  simp only [leN,List.length_cons,Nat.pow_succ]
  omega
theorem leN_append:∀ l m:List UInt8,leN (l ++ m) = leN l + 256 ^ l.length * leN m
 | [],m => by simp [leN]
 | c :: r,m => by
  simp only [List.cons_append,leN,List.length_cons,Nat.pow_succ,leN_append r m,Nat.mul_add]
  rw [Nat.mul_comm (256 ^ r.length) 256,Nat.mul_assoc]
  omega
theorem leN_leB:∀ k n,leN (leB k n) = n % 256 ^ k
 | 0,n => by simp [leB,leN,Nat.mod_one]
 | k + 1,n => by
  have e:(256:Nat) ^ (k + 1) = 256 * 256 ^ k:=by rw [Nat.pow_succ,Nat.mul_comm]
  rw [leB,leN,leN_leB k,UInt8.toNat_ofNat',e,Nat.mod_mul]
  omega
theorem leB_get:∀ k n i (h:i < k),(leB k n)[i]'(by rw [leB_length];exact h) = UInt8.ofNat (n / 256 ^ i % 256)
 | k + 1,n,0,_ => by simp [leB]
 | k + 1,n,i + 1,h => by
  simp only [leB,List.getElem_cons_succ]
  rw [leB_get k (n / 256) i (by omega),Nat.div_div_eq_div_mul,Nat.pow_succ,Nat.mul_comm]
theorem getV_le_step (bs:List UInt8) (k:Nat) (h:k < bs.length):leN (bs.take (k + 1)) = leN (bs.take k) + bs[k].toNat * 256 ^ k:=by
 rw [List.take_succ_eq_append_getElem h,leN_append]
 simp only [List.length_take,leN]
 rw [Nat.min_eq_left (by omega),Nat.mul_zero,Nat.add_zero,Nat.mul_comm]
theorem getV_be_step (bs:List UInt8) (k:Nat) (h:k < bs.length):leN (bs.take (k + 1)).reverse = 256 * leN (bs.take k).reverse + bs[k].toNat:=by
 rw [List.take_succ_eq_append_getElem h,List.reverse_append]
 simp only [List.reverse_cons,List.reverse_nil,List.nil_append,List.singleton_append,leN]
 omega
def accV (bs:List UInt8) (big:Bool) (k:Nat):Nat:=if big then leN (bs.take k).reverse * 256 ^ (bs.length - k) else leN (bs.take k)
theorem pow256 (k:Nat):(256:Nat) ^ k = 2 ^ (8 * k):=by rw [show (256:Nat) = 2 ^ 8 by decide,← Nat.pow_mul]
theorem or_far (a b m:Nat) (hb:b < 2 ^ m):(a * 2 ^ m) ||| b = a * 2 ^ m + b:=by
 rw [Nat.mul_comm,Nat.two_pow_add_eq_or_of_lt hb]
theorem accV_step (bs:List UInt8) (big:Bool) (k:Nat) (h:k < bs.length) :
  accV bs big k ||| (bs[k].toNat * 2 ^ (8 * (if big then bs.length - 1 - k else k))) = accV bs big (k + 1):=by
 have hc:=(bs[k]).toNat_lt
 cases big
 ·simp only [accV,Bool.false_eq_true,if_false]
  rw [getV_le_step bs k h,Nat.or_comm,pow256]
  have hl:=leN_lt (bs.take k)
  rw [List.length_take,Nat.min_eq_left (by omega),pow256] at hl
  rw [or_far _ _ _ hl,Nat.add_comm]
 ·simp only [accV,if_true]
  rw [getV_be_step bs k h]
  have e:bs.length - k = (bs.length - 1 - k) + 1:=by omega
  have e2:bs.length - (k + 1) = bs.length - 1 - k:=by omega
  rw [e2,e,Nat.pow_succ,← pow256]
  obtain ⟨m,hm⟩:∃ m,m = bs.length - 1 - k:=⟨_,rfl⟩
  rw [← hm,Nat.mul_comm (256 ^ m) 256,← Nat.mul_assoc,pow256]
  have hlt:bs[k].toNat * 2 ^ (8 * m) < 2 ^ (8 * (m + 1)):=by
   rw [Nat.mul_add,Nat.pow_add,Nat.mul_comm]
   exact Nat.mul_lt_mul_of_pos_left (by simpa using hc) (Nat.two_pow_pos _)
  have e3:leN (bs.take k).reverse * 256 * 2 ^ (8 * m) = leN (bs.take k).reverse * 2 ^ (8 * (m + 1)):=by
   rw [Nat.mul_add 8 m 1,Nat.pow_add,Nat.mul_assoc,Nat.mul_comm 256]
  rw [e3,or_far _ _ _ hlt,Nat.add_mul,Nat.mul_comm 256,e3]
theorem accV_zero (bs:List UInt8) (big:Bool):accV bs big 0 = 0:=by cases big <;> simp [accV,leN]
theorem accV_all (bs:List UInt8) (big:Bool):accV bs big bs.length = valB bs big:=by cases big <;> simp [accV,valB]
theorem accV_lt (bs:List UInt8) (big:Bool) (k:Nat) (h:k ≤ bs.length):accV bs big k < 256 ^ bs.length:=by
 cases big
 ·simp only [accV,Bool.false_eq_true,if_false]
  have hl:=leN_lt (bs.take k)
  rw [List.length_take,Nat.min_eq_left (by omega)] at hl
  exact Nat.lt_of_lt_of_le hl (Nat.pow_le_pow_right (by decide) h)
 ·simp only [accV,if_true]
  have hl:=leN_lt (bs.take k).reverse
  rw [List.length_reverse,List.length_take,Nat.min_eq_left (by omega)] at hl
  have:256 ^ bs.length = 256 ^ k * 256 ^ (bs.length - k):=by rw [← Nat.pow_add];congr 1;omega
  rw [this]
  exact Nat.mul_lt_mul_of_pos_right hl (Nat.pow_pos (by decide))
theorem posI_bound (big:Bool) (size i:Int) (h0:0 ≤ i) (h1:i < size):0 ≤ posI big size i ∧ posI big size i < size:=by cases big <;> simp [posI] <;> omega
theorem or_val64 (a b:Nat) (ha:a < 18446744073709551616) (hb:b < 18446744073709551616):bits .or .u64 (a:Int) (b:Int) = ((a ||| b:Nat):Int):=u64_or_nat a b ha hb
theorem get_step (bs:List UInt8) (big:Bool) (k:Nat) (h:k < bs.length) (h8:bs.length ≤ 8) :
  bits .or .u64 (accV bs big k:Int) (((at8 bs k).toNat:Int) * 2 ^ (8 * posI big bs.length k).toNat % 18446744073709551616) = (accV bs big (k + 1):Int):=by
 obtain ⟨p,hp⟩:∃ p:Nat,p = if big then bs.length - 1 - k else k:=⟨_,rfl⟩
 have hp8:p ≤ 7:=by rw [hp];cases big <;> simp <;> omega
 have e1:(8 * posI big bs.length k).toNat = 8 * p:=by rw [hp];cases big <;> simp [posI] <;> omega
 have hc:=(at8 bs k).toNat_lt
 have hlt:(at8 bs k).toNat * 2 ^ (8 * p) < 18446744073709551616:=by
  have h1:(at8 bs k).toNat * 2 ^ (8 * p) < 256 * 2 ^ (8 * p):=Nat.mul_lt_mul_of_pos_right hc (Nat.two_pow_pos _)
  have h2:2 ^ (8 * p) ≤ 2 ^ 56:=Nat.pow_le_pow_right (by decide) (by omega)
  omega
 have ha:accV bs big k < 18446744073709551616:=by
  have h1:=accV_lt bs big k (by omega)
  have h2:256 ^ bs.length ≤ 256 ^ 8:=Nat.pow_le_pow_right (by decide) h8
  omega
 have e2:(((at8 bs k).toNat:Int) * 2 ^ (8 * p) % 18446744073709551616) = (((at8 bs k).toNat * 2 ^ (8 * p):Nat):Int):=by
  have h1:(((at8 bs k).toNat:Int) * 2 ^ (8 * p)) = (((at8 bs k).toNat * 2 ^ (8 * p):Nat):Int):=by simp
  rw [h1];omega
 rw [e1,e2,or_val64 _ _ ha hlt,at8_get bs k h,hp,accV_step bs big k h]
def bv (c:UInt8):Value:=.int .u8 (c.toNat:Int)
theorem putB_at (sz n:Nat) (big:Bool) (k:Nat) (h:k < sz):((at8 (putB sz n big) k).toNat:Int) = ((n:Int) / 2 ^ (8 * posI big sz k).toNat) % 256:=by
 obtain ⟨p,hp⟩:∃ p:Nat,p = if big then sz - 1 - k else k:=⟨_,rfl⟩
 have hps:p < sz:=by rw [hp];cases big <;> simp <;> omega
 have e1:(8 * posI big sz k).toNat = 8 * p:=by rw [hp];cases big <;> simp [posI] <;> omega
 have e2:at8 (putB sz n big) k = UInt8.ofNat (n / 256 ^ p % 256):=by
  rw [at8_get _ _ (by rw [putB_length];exact h)]
  cases big
  ·simp only [putB,Bool.false_eq_true,if_false] at hp ⊢
   rw [leB_get _ _ _ h,hp]
  ·simp only [putB,if_true] at hp ⊢
   rw [List.getElem_reverse,leB_get _ _ _ (by rw [leB_length];omega)]
   simp only [leB_length]
   rw [hp]
 rw [e1,e2,UInt8.toNat_ofNat',pow256]
 have e3:((n:Int) / 2 ^ (8 * p)) = ((n / 2 ^ (8 * p):Nat):Int):=by simp
 rw [e3]
 omega
theorem take_at (l:List UInt8) (k:Nat) (h:k < l.length):l.take (k + 1) = l.take k ++ [at8 l k]:=by
 rw [List.take_succ_eq_append_getElem h,at8_get l k h]
theorem Byt.ofOwn {w:World} {base e g n cap:Nat} {l:List UInt8} (h:w.ownsRow base e 1 (.slice (some ⟨g,0,none⟩) n cap) n (l.map bv)):Byt w (some ⟨g,0,none⟩) n l:=by
 have hl:l.length = n:=by have:=h.1;simpa using this
 refine ⟨hl,.inr ⟨g,0,rfl,fun i hi => ?_⟩⟩
 have hc:=h.cellAt i (by omega)
 rw [Nat.zero_add,hc,List.getElem?_map,at8_get l i (by omega)]
 simp [bv,show i < l.length by omega]
theorem Byt.cells {w:World} {a:Option Addr} {len:Nat} {l:List UInt8} (h:Byt w a len l):∀ ad,a = some ad → ∀ j v,(l.map bv)[j]? = some v → w.cell? (ad.add j) = some v:=by
 intro ad ha j v hj
 have hjl:j < l.length:=by
  rcases Nat.lt_or_ge j l.length with h | h
  ·exact h
  ·simp [List.getElem?_eq_none (show (l.map bv).length ≤ j by simpa using h)] at hj
 have hl:=h.1
 rcases h.2 with h0 | ⟨b,off,e,hc⟩
 ·omega
 ·rw [ha] at e
  cases e
  have hadd:(⟨b,off,none⟩:Addr).add j = ⟨b,off + j,none⟩:=by unfold Addr.add;split <;> simp_all
  rw [hadd,hc j (by omega),at8_get l j hjl]
  simpa [hjl,bv] using hj
theorem Byt.later {w w':World} {a:Option Addr} {len:Nat} {l:List UInt8} (h:Byt w a len l) (hb:Below w.heap.size w w'):Byt w' a len l:=by
 refine ⟨h.1,?_⟩
 rcases h.2 with h0 | ⟨b,off,e,hc⟩
 ·exact .inl h0
 ·refine .inr ⟨b,off,e,fun i hi => ?_⟩
  have:=hc i hi
  rw [hb.cell (p:=⟨b,off + i,none⟩) (World.block_lt_of_cell? w _ this)]
  exact this
theorem bv_oneCell (l:List UInt8):∀ u ∈ l.map bv,u.oneCell' = true:=by
 intro u hu
 simp only [List.mem_map] at hu
 obtain ⟨c,_,rfl⟩:=hu
 rfl
end Go.Proofs.YthmkhdnnljdglaaGreatDoor
namespace Go.Proofs.YthmkhdnnljdglaaGreatDoor
set_option linter.unusedVariables false
set_option maxRecDepth 100000
open Go.RowKit
def at32 (l:List (BitVec 32)) (i:Nat):BitVec 32:=l.getD i 0#32
theorem at32_get (l:List (BitVec 32)) (i:Nat) (h:i < l.length):at32 l i = l[i]:=by simp [at32,h]
theorem at32_set_same (l:List (BitVec 32)) (i:Nat) (v:BitVec 32) (h:i < l.length):at32 (l.set i v) i = v:=by simp [at32,h]
theorem at32_set_other (l:List (BitVec 32)) (i j:Nat) (v:BitVec 32) (h:i ≠ j):at32 (l.set i v) j = at32 l j:=by simp [at32,List.getElem?_set_ne h]
def qhalf (l:List (BitVec 32)) (a b d:Nat) (n:Int):List (BitVec 32):=(l.set a (at32 l a + at32 l b)).set d (rotl (at32 l d ^^^ (at32 l a + at32 l b)) n)
def qtr (l:List (BitVec 32)) (a b c d:Nat):List (BitVec 32):=qhalf (qhalf (qhalf (qhalf l a b d 16) c d b 12) a b d 8) c d b 7
theorem qhalf_length (l:List (BitVec 32)) (a b d:Nat) (n:Int):(qhalf l a b d n).length = l.length:=by simp [qhalf]
theorem qtr_length (l:List (BitVec 32)) (a b c d:Nat):(qtr l a b c d).length = l.length:=by simp [qtr,qhalf_length]
def cols:Nat → List (BitVec 32) → List (BitVec 32)
 | 0,l => l
 | k + 1,l => qtr (cols k l) k (4 + k) (8 + k) (12 + k)
def slants:Nat → List (BitVec 32) → List (BitVec 32)
 | 0,l => l
 | k + 1,l => qtr (slants k l) k (4 + (k + 1) % 4) (8 + (k + 2) % 4) (12 + (k + 3) % 4)
def turned:Nat → List (BitVec 32) → List (BitVec 32)
 | 0,l => l
 | k + 1,l => slants 4 (cols 4 (turned k l))
theorem cols_length (l:List (BitVec 32)):∀ k,(cols k l).length = l.length
 | 0 => rfl
 | k + 1 => by rw [cols,qtr_length,cols_length l k]
theorem slants_length (l:List (BitVec 32)):∀ k,(slants k l).length = l.length
 | 0 => rfl
 | k + 1 => by rw [slants,qtr_length,slants_length l k]
theorem turned_length (l:List (BitVec 32)):∀ k,(turned k l).length = l.length
 | 0 => rfl
 | k + 1 => by rw [turned,slants_length,cols_length,turned_length l k]
def wordAt (b:List UInt8) (i:Nat):BitVec 32:=BitVec.ofNat 32 (getV b false (4 * i) 4)
theorem getV4_lt (b:List UInt8) (i:Nat):getV b false i 4 < 4294967296:=by
 have h:=leN_lt (cutB b i 4)
 have h2:(cutB b i 4).length ≤ 4:=by simp [cutB];omega
 have h3:(256:Nat) ^ (cutB b i 4).length ≤ 256 ^ 4:=Nat.pow_le_pow_right (by decide) h2
 show leN _ < _
 omega
theorem wordAt_val (b:List UInt8) (i:Nat):((wordAt b i).toNat:Int) = (getV b false (4 * i) 4:Int):=by
 have:=getV4_lt b (4 * i)
 rw [wordAt,BitVec.toNat_ofNat,Nat.mod_eq_of_lt (by omega)]
def wordsTo (b:List UInt8) (k:Nat):List (BitVec 32):=(List.range k).map (wordAt b)
theorem wordsTo_length (b:List UInt8) (k:Nat):(wordsTo b k).length = k:=by simp [wordsTo]
theorem wordsTo_succ (b:List UInt8) (k:Nat):wordsTo b (k + 1) = wordsTo b k ++ [wordAt b k]:=by simp [wordsTo,List.range_succ]
def chaHead:List (BitVec 32):=[0x61707865#32,0x3320646e#32,0x79622d32#32,0x6b206574#32]
def chaAt (key:List UInt8) (ctr:BitVec 32) (nonce:List UInt8):List (BitVec 32):=chaHead ++ wordsTo key 8 ++ [ctr] ++ wordsTo nonce 3
theorem chaAt_length (key:List UInt8) (ctr:BitVec 32) (nonce:List UInt8):(chaAt key ctr nonce).length = 16:=by simp [chaAt,chaHead,wordsTo_length]
def chaWord (key:List UInt8) (ctr:BitVec 32) (nonce:List UInt8) (i:Nat):BitVec 32:=at32 (turned 10 (chaAt key ctr nonce)) i + at32 (chaAt key ctr nonce) i
def blkTo (key:List UInt8) (ctr:BitVec 32) (nonce:List UInt8):Nat → List UInt8
 | 0 => []
 | k + 1 => blkTo key ctr nonce k ++ leB 4 (chaWord key ctr nonce k).toNat
def blk (key:List UInt8) (ctr:BitVec 32) (nonce:List UInt8):List UInt8:=blkTo key ctr nonce 16
theorem blkTo_length (key:List UInt8) (ctr:BitVec 32) (nonce:List UInt8):∀ k,(blkTo key ctr nonce k).length = 4 * k
 | 0 => rfl
 | k + 1 => by rw [blkTo,List.length_append,leB_length,blkTo_length key ctr nonce k];omega
theorem blk_length (key:List UInt8) (ctr:BitVec 32) (nonce:List UInt8):(blk key ctr nonce).length = 64:=blkTo_length key ctr nonce 16
def stmAt (key:List UInt8) (ctr:BitVec 32) (nonce:List UInt8) (i:Nat):UInt8:=at8 (blk key (ctr + BitVec.ofNat 32 (i / 64)) nonce) (i % 64)
def stmFrom (key:List UInt8) (ctr:BitVec 32) (nonce:List UInt8):Nat → List UInt8 → List UInt8
 | _,[] => []
 | i,c :: r => (c ^^^ stmAt key ctr nonce i) :: stmFrom key ctr nonce (i + 1) r
def stm (key:List UInt8) (ctr:BitVec 32) (nonce:List UInt8) (b:List UInt8):List UInt8:=stmFrom key ctr nonce 0 b
section
variable (key:List UInt8) (ctr:BitVec 32) (nonce:List UInt8)
theorem stmFrom_length:∀ i b,(stmFrom key ctr nonce i b).length = b.length
 | _,[] => rfl
 | i,c :: r => by simp [stmFrom,stmFrom_length (i + 1) r]
theorem stm_length (b:List UInt8):(stm key ctr nonce b).length = b.length:=stmFrom_length key ctr nonce 0 b
theorem stmFrom_append:∀ i b c,stmFrom key ctr nonce i (b ++ c) = stmFrom key ctr nonce i b ++ stmFrom key ctr nonce (i + b.length) c
 | i,[],c => by simp [stmFrom]
 | i,x :: r,c => by
  simp only [List.cons_append,stmFrom,List.length_cons]
  rw [stmFrom_append (i + 1) r c,show i + 1 + r.length = i + (r.length + 1) by omega]
theorem stmFrom_twice:∀ i b,stmFrom key ctr nonce i (stmFrom key ctr nonce i b) = b
 | _,[] => rfl
 | i,c :: r => by rw [stmFrom,stmFrom,stmFrom_twice (i + 1) r,UInt8.xor_assoc,UInt8.xor_self,UInt8.xor_zero]
theorem stm_twice (b:List UInt8):stm key ctr nonce (stm key ctr nonce b) = b:=stmFrom_twice key ctr nonce 0 b
theorem stmFrom_at:∀ i b k,k < b.length → at8 (stmFrom key ctr nonce i b) k = at8 b k ^^^ stmAt key ctr nonce (i + k)
 | i,[],k,h => by simp at h
 | i,c :: r,0,_ => by simp [stmFrom,at8]
 | i,c :: r,k + 1,h => by
  have:=stmFrom_at (i + 1) r k (by simpa using h)
  rw [show i + 1 + k = i + (k + 1) by omega] at this
  simpa [stmFrom,at8] using this
theorem stm_at (b:List UInt8) (k:Nat) (h:k < b.length):at8 (stm key ctr nonce b) k = at8 b k ^^^ stmAt key ctr nonce k:=by
 have:=stmFrom_at key ctr nonce 0 b k h
 rwa [Nat.zero_add] at this
theorem stmAt_shift (n i:Nat):stmAt key ctr nonce (64 * n + i) = stmAt key (ctr + BitVec.ofNat 32 n) nonce i:=by
 unfold stmAt
 rw [show (64 * n + i) / 64 = n + i / 64 by omega,show (64 * n + i) % 64 = i % 64 by omega]
 congr 2
 apply BitVec.eq_of_toNat_eq
 simp only [BitVec.toNat_add,BitVec.toNat_ofNat]
 omega
theorem stmFrom_shift (n:Nat):∀ i b,stmFrom key ctr nonce (64 * n + i) b = stmFrom key (ctr + BitVec.ofNat 32 n) nonce i b
 | _,[] => rfl
 | i,c :: r => by
  rw [stmFrom,stmFrom,stmAt_shift,← stmFrom_shift n (i + 1) r,Nat.add_assoc]
theorem stm_parts (b:List UInt8) (n:Nat):stm key ctr nonce b = stm key ctr nonce (b.take (min (64 * n) b.length)) ++ stm key (ctr + BitVec.ofNat 32 n) nonce (b.drop (min (64 * n) b.length)):=by
 unfold stm
 by_cases h:64 * n ≤ b.length
 ·rw [Nat.min_eq_left h]
  have e:=stmFrom_append key ctr nonce 0 (b.take (64 * n)) (b.drop (64 * n))
  rw [List.take_append_drop,List.length_take,Nat.min_eq_left h,Nat.zero_add] at e
  rw [e,← stmFrom_shift,Nat.add_zero]
 ·rw [Nat.min_eq_right (by omega)]
  simp [stmFrom]
theorem stm_step (b:List UInt8) (i:Nat) (h:64 * i < b.length) :
  stm key ctr nonce (b.take (min (64 * i + 64) b.length)) = stm key ctr nonce (b.take (64 * i)) ++ stm key (ctr + BitVec.ofNat 32 i) nonce ((b.drop (64 * i)).take (min 64 (b.length - 64 * i))):=by
 obtain ⟨m,hm⟩:∃ m,m = min (64 * i + 64) b.length:=⟨_,rfl⟩
 rw [← hm]
 have e:=stm_parts key ctr nonce (b.take m) i
 have h1:(b.take m).length = m:=by rw [List.length_take];omega
 rw [h1,Nat.min_eq_left (show 64 * i ≤ m by omega),List.take_take,Nat.min_eq_left (show 64 * i ≤ m by omega),List.drop_take,show m - 64 * i = min 64 (b.length - 64 * i) by omega] at e
 exact e
theorem stm_one (b:List UInt8) (h:b.length ≤ 64):stm key ctr nonce b = List.zipWith (· ^^^ ·) b (blk key ctr nonce):=by
 have hl:=blk_length key ctr nonce
 apply List.ext_getElem
 ·rw [stm_length,List.length_zipWith,hl];omega
 ·intro k h1 h2
  rw [stm_length] at h1
  have e:=stm_at key ctr nonce b k h1
  rw [at8_get _ _ (by rw [stm_length];exact h1),at8_get _ _ h1] at e
  rw [e,List.getElem_zipWith]
  unfold stmAt
  rw [Nat.div_eq_of_lt (by omega),Nat.mod_eq_of_lt (by omega),show ctr + BitVec.ofNat 32 0 = ctr from BitVec.add_zero ctr,at8_get _ _ (by omega)]
end
end Go.Proofs.YthmkhdnnljdglaaGreatDoor
