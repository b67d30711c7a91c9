import Derived.Test.YtkdpblbhcfhagaaGreatDoorRows
import Derived.WalkSpells
import Derived.WalkLawsBesides
import Derived.Laws.CopyOwn
import Derived.Laws.BytesArg
import Derived.Test.YtkdpblbhcfhagaaGreatDoorQzz
namespace Go.Proofs.YtkdpblbhcfhagaaGreatDoor
open Go.Proofs.Tryz
open _root_.Nat renaming le_refl → di, le_trans → kx, lt_of_lt_of_le → tV
open Go.RowKit.Below renaming refl → bZ, heap_alloc → jE
open Go.World renaming size_alloc → fx
open _root_.Array renaming getElem?_eq_some_iff → gD
open Go renaming undef → ag, World → aw, heap_alloc_new → eC
open _root_.List renaming replicate → cz, not_mem_nil → nj, mem_cons → mg, take_of_length_le → su
open Go.Exit renaming inBlock → nu
set_option maxHeartbeats 64000000
set_option maxRecDepth 100000
open Go.RowKit
def rotl (x:BitVec 32)(n:Int):BitVec 32:=x.rotateLeft (n % 32).toNat
theorem afC (n:Int):bits .and .u64 (IntKind.u64.wrap n) 31=n % 32:=by
 rw[IntKind.wrap_u64,u64_and _ _ (by omega) (by omega) (by omega) (by omega)];have e:((31:Int).toNat)=2^5-1:=by decide
 rw[e,Nat.and_two_pow_sub_one_eq_mod];omega
theorem Jq (x:BitVec 32)(n:Int):
  bits .or .u32 ((x.toNat:Int)*2^(n % 32).toNat % 4294967296) ((x.toNat:Int)/2^(32-n % 32).toNat)=((rotl x n).toNat:Int):=by
 obtain⟨s,hs⟩:∃s:Nat,s=(n % 32).toNat:=⟨_,rfl⟩;have akK:s<32:=by omega
 have e1:(32-n % 32).toNat=32-s:=by omega
 have hx:=x.isLt;have e2:((x.toNat:Int)*2^s % 4294967296)=((x.toNat*2^s % 4294967296:Nat):Int):=by simp
 have e3:((x.toNat:Int)/2^(32-s))=((x.toNat/2^(32-s):Nat):Int):=by simp
 have b3:x.toNat/2^(32-s)<4294967296:=Nat.lt_of_le_of_lt (Nat.div_le_self _ _) (by simpa using hx);unfold rotl;rw[e1,←hs,e2,e3,u32_or_nat _ _ (Nat.mod_lt _ (by decide)) b3,BitVec.toNat_rotateLeft,Nat.mod_eq_of_lt akK,Nat.shiftLeft_eq,Nat.shiftRight_eq_div_pow]
theorem PT (x:BitVec 32)(a b:Int):rotl (rotl x a) b=rotl x (a+b):=by
 unfold rotl;obtain⟨s,hs⟩:∃s:Nat,s=(a % 32).toNat:=⟨_,rfl⟩;obtain⟨t,ht⟩:∃s:Nat,s=(b % 32).toNat:=⟨_,rfl⟩;have hu:((a+b) % 32).toNat=(s+t) % 32:=by omega
 have h1:s<32:=by omega
 have h2:t<32:=by omega
 rw[hu,←hs,←ht];apply BitVec.eq_of_getLsbD_eq;intro i hi;simp only[BitVec.getLsbD_rotateLeft];have m1:t % 32=t:=by omega
 have m2:s % 32=s:=by omega
 have m3:(s+t) % 32 % 32=(s+t) % 32:=by omega
 rw[m1,m2,m3]
 by_cases c1:i<t<;>by_cases c2:i<(s+t) % 32<;>simp[c1,c2,hi]
 ·by_cases c3:32-t+i<s<;>simp[c3]
  ·rw[show 32-s+(32-t+i)=32-(s+t) % 32+i by omega]
  ·rw[show 32-t+i-s=32-(s+t) % 32+i by omega];simp;omega
 ·by_cases c3:32-t+i<s<;>simp[c3]
  ·rw[show 32-s+(32-t+i)=i-(s+t) % 32 by omega]
  ·rw[show 32-t+i-s=i-(s+t) % 32 by omega];simp;omega
 ·by_cases c3:i-t<s<;>simp[c3]
  ·rw[show 32-s+(i-t)=32-(s+t) % 32+i by omega]
  ·rw[show i-t-s=32-(s+t) % 32+i by omega];simp;omega
 ·by_cases c3:i-t<s<;>simp[c3]
  ·rw[show 32-s+(i-t)=i-(s+t) % 32 by omega]
  ·rw[show i-t-s=i-(s+t) % 32 by omega];simp;omega
theorem Jr (x:BitVec 32):x.rotateLeft 0=x:=by apply BitVec.eq_of_toNat_eq;have hx:=x.isLt;rw[BitVec.toNat_rotateLeft,Nat.zero_mod,Nat.shiftLeft_zero,Nat.shiftRight_eq_div_pow,Nat.mod_eq_of_lt hx,Nat.sub_zero,Nat.div_eq_of_lt hx,Nat.or_zero]
theorem xor_val (y z:BitVec 32):bits .xor .u32 (y.toNat:Int) (z.toNat:Int)=((y^^^z).toNat:Int):=by rw[u32_xor_nat _ _ (by have:=y.isLt;omega) (by have:=z.isLt;omega),BitVec.toNat_xor]
def at8 (l:aO)(i:Nat):UInt8:=l.getD i 0
theorem SD (l:aO)(i:Nat):((at8 l i).toNat:Int)<256:=by have:=(at8 l i).toNat_lt;omega
theorem cP (l:aO)(i:Nat)(h:i<l.length):at8 l i=l[i]:=by simp[at8,h]
def bj (w:aw)(a:bW)(len:Nat)(l:aO):Prop:=
 l.length=len∧(len=0∨∃b off,a=some ⟨b,off,none⟩∧∀i,i<len→w.cell? ⟨b,off+i,none⟩=some (.int .u8 ((at8 l i).toNat:Int)))
def fc:aO→Nat
 |[]=>0
 |c::r=>c.toNat+256*fc r
def zA:Nat→Nat→aO
 |0,_=>[]
 |k+1,n=>UInt8.ofNat (n % 256)::zA k (n/256)
def SE (bs:aO)(eo:Bool):Nat:=if eo then fc bs.reverse else fc bs
def fQ (l:aO)(at_ size:Nat):aO:=(l.drop at_).take size
def sW (l:aO)(eo:Bool)(at_ size:Nat):Nat:=SE (fQ l at_ size) eo
theorem vT (l:aO)(at_ size:Nat)(h:at_+size≤l.length):(fQ l at_ size).length=size:=by simp[fQ];omega
theorem OD (l:aO)(at_ size i:Nat)(h:i<size):at8 (fQ l at_ size) i=at8 l (at_+i):=by simp[at8,fQ,h]
def im (size n:Nat)(eo:Bool):aO:=if eo then(zA size n).reverse else zA size n
def vU (eo:Bool)(size i:Int):Int:=if eo then size-1-i else i
theorem aaa:∀k n,(zA k n).length=k
 |0,_=>rfl
 |k+1,n=>by simp[zA,aaa k]
theorem eU (size n:Nat)(eo:Bool):(im size n eo).length=size:=by cases eo<;>simp[im,aaa]
theorem jD:∀l:aO,fc l<256^l.length
 |[]=>by simp[fc]
 |c::r=>by have h:=jD r;have hc:=c.toNat_lt;simp only[fc,List.length_cons,Nat.pow_succ];omega
theorem ji:∀l m:aO,fc (l++m)=fc l+256^l.length*fc m
 |[],m=>by simp[fc]
 |c::r,m=>by simp only[List.cons_append,fc,List.length_cons,Nat.pow_succ,ji r m,Nat.mul_add];rw[Nat.mul_comm (256^r.length) 256,Nat.mul_assoc];omega
theorem Cg:∀k n,fc (zA k n)=n % 256^k
 |0,n=>by simp[zA,fc,Nat.mod_one]
 |k+1,n=>by
  have e:(256:Nat)^(k+1)=256*256^k:=by rw[Nat.pow_succ,Nat.mul_comm]
  rw[zA,fc,Cg k,UInt8.toNat_ofNat',e,Nat.mod_mul];omega
theorem tU:∀k n i (h:i<k),(zA k n)[i]'(by rw[aaa];exact h)=UInt8.ofNat (n/256^i % 256)
 |k+1,n,0,_=>by simp[zA]
 |k+1,n,i+1,h=>by simp only[zA,List.getElem_cons_succ];rw[tU k (n/256) i (by omega),Nat.div_div_eq_div_mul,Nat.pow_succ,Nat.mul_comm]
theorem SF (k n:Nat):zA (k+1) n=zA k n++[UInt8.ofNat (n/256^k % 256)]:=by
 apply List.ext_getElem
 ·simp[aaa]
 ·intro i h1 h2;rw[aaa] at h1;rw[tU (k+1) n i h1]
  by_cases hi:i<k
  ·rw[List.getElem_append_left (by rw[aaa];exact hi),tU k n i hi]
  ·have e:i=k:=by omega
   subst e;rw[List.getElem_append_right (by rw[aaa];exact di _)];simp[aaa]
theorem GS (bs:aO)(k:Nat)(h:k<bs.length):fc (bs.take (k+1))=fc (bs.take k)+bs[k].toNat*256^k:=by rw[List.take_succ_eq_append_getElem h,ji];simp only[List.length_take,fc];rw[Nat.min_eq_left (by omega),Nat.mul_zero,Nat.add_zero,Nat.mul_comm]
theorem yY (bs:aO)(k:Nat)(h:k<bs.length):fc (bs.take (k+1)).reverse=256*fc (bs.take k).reverse+bs[k].toNat:=by rw[List.take_succ_eq_append_getElem h,List.reverse_append];simp only[List.reverse_cons,List.reverse_nil,List.nil_append,List.singleton_append,fc];omega
def vC (bs:aO)(eo:Bool)(k:Nat):Nat:=if eo then fc (bs.take k).reverse*256^(bs.length-k) else fc (bs.take k)
theorem sg (k:Nat):(256:Nat)^k=2^(8*k):=by rw[show(256:Nat)=2^8 by decide,←Nat.pow_mul]
theorem CB (a b m:Nat)(hb:b<2^m):(a*2^m)|||b=a*2^m+b:=by rw[Nat.mul_comm,Nat.two_pow_add_eq_or_of_lt hb]
theorem PU (bs:aO)(eo:Bool)(k:Nat)(h:k<bs.length):
  vC bs eo k|||(bs[k].toNat*2^(8*(if eo then bs.length-1-k else k)))=vC bs eo (k+1):=by
 have hc:=(bs[k]).toNat_lt;cases eo
 ·simp only[vC,Bool.false_eq_true,if_false];rw[GS bs k h,Nat.or_comm,sg];have hl:=jD (bs.take k);rw[List.length_take,Nat.min_eq_left (by omega),sg] at hl;rw[CB _ _ _ hl,Nat.add_comm]
 ·simp only[vC,if_true];rw[yY bs k h];have e:bs.length-k=(bs.length-1-k)+1:=by omega
  have e2:bs.length-(k+1)=bs.length-1-k:=by omega
  rw[e2,e,Nat.pow_succ,←sg];obtain⟨m,hm⟩:∃m,m=bs.length-1-k:=⟨_,rfl⟩;rw[←hm,Nat.mul_comm (256^m) 256,←Nat.mul_assoc,sg];have dN:bs[k].toNat*2^(8*m)<2^(8*(m+1)):=by rw[Nat.mul_add,Nat.pow_add,Nat.mul_comm];exact Nat.mul_lt_mul_of_pos_left (by simpa using hc) (Nat.two_pow_pos _)
  have e3:fc (bs.take k).reverse*256*2^(8*m)=fc (bs.take k).reverse*2^(8*(m+1)):=by rw[Nat.mul_add 8 m 1,Nat.pow_add,Nat.mul_assoc,Nat.mul_comm 256]
  rw[e3,CB _ _ _ dN,Nat.add_mul,Nat.mul_comm 256,e3]
theorem PV (bs:aO)(eo:Bool):vC bs eo 0=0:=by cases eo<;>simp[vC,fc]
theorem SG (bs:aO)(eo:Bool):vC bs eo bs.length=SE bs eo:=by cases eo<;>simp[vC,SE]
theorem Xe (bs:aO)(eo:Bool)(k:Nat)(h:k≤bs.length):vC bs eo k<256^bs.length:=by
 cases eo
 ·simp only[vC,Bool.false_eq_true,if_false];have hl:=jD (bs.take k);rw[List.length_take,Nat.min_eq_left (by omega)] at hl;exact tV hl (Nat.pow_le_pow_right (by decide) h)
 ·simp only[vC,if_true];have hl:=jD (bs.take k).reverse;rw[List.length_reverse,List.length_take,Nat.min_eq_left (by omega)] at hl;have:256^bs.length=256^k*256^(bs.length-k):=by rw[←Nat.pow_add];congr 1;omega
  rw[this];exact Nat.mul_lt_mul_of_pos_right hl (Nat.pow_pos (by decide))
theorem x6 (eo:Bool)(size i:Int)(h0:0≤i)(h1:i<size):0≤vU eo size i∧vU eo size i<size:=by cases eo<;>simp[vU]<;>omega
theorem CC (a b:Nat)(ha:a<18446744073709551616)(hb:b<18446744073709551616):bits .or .u64 (a:Int) (b:Int)=((a|||b:Nat):Int):=u64_or_nat a b ha hb
theorem SH (bs:aO)(eo:Bool)(k:Nat)(h:k<bs.length)(h8:bs.length≤8):
  bits .or .u64 (vC bs eo k:Int) (((at8 bs k).toNat:Int)*2^(8*vU eo bs.length k).toNat % 18446744073709551616)=(vC bs eo (k+1):Int):=by
 obtain⟨p,hp⟩:∃p:Nat,p=if eo then bs.length-1-k else k:=⟨_,rfl⟩
 have hp8:p≤7:=by rw[hp];cases eo<;>simp<;>omega
 have e1:(8*vU eo bs.length k).toNat=8*p:=by rw[hp];cases eo<;>simp[vU]<;>omega
 have hc:=(at8 bs k).toNat_lt;have dN:(at8 bs k).toNat*2^(8*p)<18446744073709551616:=by have h1:(at8 bs k).toNat*2^(8*p)<256*2^(8*p):=Nat.mul_lt_mul_of_pos_right hc (Nat.two_pow_pos _);have h2:2^(8*p)≤2^56:=Nat.pow_le_pow_right (by decide) (by omega);omega
 have ha:vC bs eo k<18446744073709551616:=by have h1:=Xe bs eo k (by omega);have h2:256^bs.length≤256^8:=Nat.pow_le_pow_right (by decide) h8;omega
 have e2:(((at8 bs k).toNat:Int)*2^(8*p) % 18446744073709551616)=(((at8 bs k).toNat*2^(8*p):Nat):Int):=by
  have h1:(((at8 bs k).toNat:Int)*2^(8*p))=(((at8 bs k).toNat*2^(8*p):Nat):Int):=by simp
  rw[h1];omega
 rw[e1,e2,CC _ _ ha dN,cP bs k h,hp,PU bs eo k h]
def bv (c:UInt8):Value:=.int .u8 (c.toNat:Int)
theorem OE (sz n:Nat)(eo:Bool)(k:Nat)(h:k<sz):((at8 (im sz n eo) k).toNat:Int)=((n:Int)/2^(8*vU eo sz k).toNat) % 256:=by
 obtain⟨p,hp⟩:∃p:Nat,p=if eo then sz-1-k else k:=⟨_,rfl⟩
 have hps:p<sz:=by rw[hp];cases eo<;>simp<;>omega
 have e1:(8*vU eo sz k).toNat=8*p:=by rw[hp];cases eo<;>simp[vU]<;>omega
 have e2:at8 (im sz n eo) k=UInt8.ofNat (n/256^p % 256):=by
  rw[cP _ _ (by rw[eU];exact h)];cases eo
  ·simp only[im,Bool.false_eq_true,if_false] at hp⊢;rw[tU _ _ _ h,hp]
  ·simp only[im,if_true] at hp⊢;rw[List.getElem_reverse,tU _ _ _ (by rw[aaa];omega)];simp only[aaa];rw[hp]
 rw[e1,e2,UInt8.toNat_ofNat',sg];have e3:((n:Int)/2^(8*p))=((n/2^(8*p):Nat):Int):=by simp
 rw[e3];omega
theorem tW (l:aO)(k:Nat)(h:k<l.length):l.take (k+1)=l.take k++[at8 l k]:=by rw[List.take_succ_eq_append_getElem h,cP l k h]
theorem bj.jT {w:aw}{base e g n cap:Nat}{l:aO}(h:w.ownsRow base e 1 (.slice (some ⟨g,0,none⟩) n cap) n (l.map bv)):bj w (some ⟨g,0,none⟩) n l:=by
 have hl:l.length=n:=by have:=h.1;simpa using this
 refine⟨hl,.inr ⟨g,0,rfl,λi hi=>?_⟩⟩;have hc:=h.cellAt i (by omega);rw[Nat.zero_add,hc,List.getElem?_map,cP l i (by omega)];simp[bv,show i<l.length by omega]
theorem bj.cells {w:aw}{a:bW}{len:Nat}{l:aO}(h:bj w a len l):∀ad,a=some ad→∀j v,(l.map bv)[j]?=some v→w.cell? (ad.add j)=some v:=by
 intro ad ha j v hj;have PW:j<l.length:=by
  rcases Nat.lt_or_ge j l.length with h|h
  ·exact h
  ·simp[List.getElem?_eq_none (show(l.map bv).length≤j by simpa using h)] at hj
 have hl:=h.1
 rcases h.2 with h0|⟨b,off,e,hc⟩
 ·omega
 ·rw[ha] at e;cases e
  have Mf:(⟨b,off,none⟩:Addr).add j=⟨b,off+j,none⟩:=by unfold Addr.add;split<;>simp_all
  rw[Mf,hc j (by omega),cP l j PW]
  simpa[PW,bv] using hj
theorem bj.later {w w':aw}{a:bW}{len:Nat}{l:aO}(h:bj w a len l)(hb:Below w.heap.size w w'):bj w' a len l:=by
 refine⟨h.1,?_⟩
 rcases h.2 with h0|⟨b,off,e,hc⟩
 ·exact .inl h0
 ·refine .inr ⟨b,off,e,λi hi=>?_⟩;have:=hc i hi;rw[hb.cell (p:=⟨b,off+i,none⟩) (World.block_lt_of_cell? w _ this)];exact this
theorem bd (l:aO):∀u∈l.map bv,u.oneCell'=true:=by intro u hu;simp only[List.mem_map] at hu;obtain⟨c,_,rfl⟩:=hu;rfl
set_option linter.unusedVariables false
def bG (l:List (BitVec 32))(i:Nat):BitVec 32:=l.getD i 0#32
theorem oM (l:List (BitVec 32))(i:Nat)(h:i<l.length):bG l i=l[i]:=by simp[bG,h]
theorem xy (l:List (BitVec 32))(i:Nat)(v:BitVec 32)(h:i<l.length):bG (l.set i v) i=v:=by simp[bG,h]
theorem gy (l:List (BitVec 32))(i j:Nat)(v:BitVec 32)(h:i≠j):bG (l.set i v) j=bG l j:=by simp[bG,List.getElem?_set_ne h]
def uV (l:List (BitVec 32))(a b d:Nat)(n:Int):List (BitVec 32):=(l.set a (bG l a+bG l b)).set d (rotl (bG l d^^^(bG l a+bG l b)) n)
def qtr (l:List (BitVec 32))(a b c d:Nat):List (BitVec 32):=uV (uV (uV (uV l a b d 16) c d b 12) a b d 8) c d b 7
theorem fK (l:List (BitVec 32))(a b d:Nat)(n:Int):(uV l a b d n).length=l.length:=by simp[uV]
theorem CD (l:List (BitVec 32))(a b c d:Nat):(qtr l a b c d).length=l.length:=by simp[qtr,fK]
def pk:Nat→List (BitVec 32)→List (BitVec 32)
 |0,l=>l
 |k+1,l=>qtr (pk k l) k (4+k) (8+k) (12+k)
def kz:Nat→List (BitVec 32)→List (BitVec 32)
 |0,l=>l
 |k+1,l=>qtr (kz k l) k (4+(k+1) % 4) (8+(k+2) % 4) (12+(k+3) % 4)
def turned:Nat→List (BitVec 32)→List (BitVec 32)
 |0,l=>l
 |k+1,l=>kz 4 (pk 4 (turned k l))
theorem vV (l:List (BitVec 32)):∀k,(pk k l).length=l.length
 |0=>rfl
 |k+1=>by rw[pk,CD,vV l k]
theorem si (l:List (BitVec 32)):∀k,(kz k l).length=l.length
 |0=>rfl
 |k+1=>by rw[kz,CD,si l k]
theorem xz (l:List (BitVec 32)):∀k,(turned k l).length=l.length
 |0=>rfl
 |k+1=>by rw[turned,si,vV,xz l k]
def kL (b:aO)(i:Nat):BitVec 32:=BitVec.ofNat 32 (sW b false (4*i) 4)
theorem CE (b:aO)(i:Nat):sW b false i 4<4294967296:=by
 have h:=jD (fQ b i 4);have h2:(fQ b i 4).length≤4:=by simp[fQ];omega
 have h3:(256:Nat)^(fQ b i 4).length≤256^4:=Nat.pow_le_pow_right (by decide) h2;show fc _<_;omega
theorem tX (b:aO)(i:Nat):((kL b i).toNat:Int)=(sW b false (4*i) 4:Int):=by have:=CE b (4*i);rw[kL,BitVec.toNat_ofNat,Nat.mod_eq_of_lt (by omega)]
def eN (b:aO)(k:Nat):List (BitVec 32):=(List.range k).map (kL b)
theorem iM (b:aO)(k:Nat):(eN b k).length=k:=by simp[eN]
theorem tY (b:aO)(k:Nat):eN b (k+1)=eN b k++[kL b k]:=by simp[eN,List.range_succ]
def xe:List (BitVec 32):=[0x61707865#32,0x3320646e#32,0x79622d32#32,0x6b206574#32]
def pG (key:aO)(xB:BitVec 32)(aq:aO):List (BitVec 32):=xe++eN key 8++[xB]++eN aq 3
theorem tZ (key:aO)(xB:BitVec 32)(aq:aO):(pG key xB aq).length=16:=by simp[pG,xe,iM]
def yZ (key:aO)(xB:BitVec 32)(aq:aO)(i:Nat):BitVec 32:=bG (turned 10 (pG key xB aq)) i+bG (pG key xB aq) i
def rD (key:aO)(xB:BitVec 32)(aq:aO):Nat→aO
 |0=>[]
 |k+1=>rD key xB aq k++zA 4 (yZ key xB aq k).toNat
def Fb (key:aO)(xB:BitVec 32)(aq:aO):aO:=rD key xB aq 16
theorem pK (key:aO)(xB:BitVec 32)(aq:aO):∀k,(rD key xB aq k).length=4*k
 |0=>rfl
 |k+1=>by rw[rD,List.length_append,aaa,pK key xB aq k];omega
theorem qg (key:aO)(xB:BitVec 32)(aq:aO):(Fb key xB aq).length=64:=pK key xB aq 16
theorem SI (n:Nat):zA 4 n=zA 4 (n % 4294967296):=by
 simp only[zA];have e0:n % 4294967296 % 256=n % 256:=by omega
 have e1:n % 4294967296/256 % 256=n/256 % 256:=by omega
 have e2:n % 4294967296/256/256 % 256=n/256/256 % 256:=by omega
 have e3:n % 4294967296/256/256/256 % 256=n/256/256/256 % 256:=by omega
 rw[e0,e1,e2,e3]
theorem SJ (x y:BitVec 32):zA 4 (x.toNat+y.toNat)=zA 4 (x+y).toNat:=by rw[SI,BitVec.toNat_add]
def CF (key:aO)(xB:BitVec 32)(aq:aO)(i:Nat):UInt8:=at8 (Fb key (xB+BitVec.ofNat 32 (i/64)) aq) (i % 64)
def fL (key:aO)(xB:BitVec 32)(aq:aO):Nat→aO→aO
 |_,[]=>[]
 |i,c::r=>(c^^^CF key xB aq i)::fL key xB aq (i+1) r
def vW (key:aO)(xB:BitVec 32)(aq:aO)(b:aO):aO:=fL key xB aq 0 b
section
variable (key:aO) (xB:BitVec 32) (aq:aO)
theorem vX:∀i b,(fL key xB aq i b).length=b.length
 |_,[]=>rfl
 |i,c::r=>by simp[fL,vX (i+1) r]
theorem mf (b:aO):(vW key xB aq b).length=b.length:=vX key xB aq 0 b
theorem vY:∀i b c,fL key xB aq i (b++c)=fL key xB aq i b++fL key xB aq (i+b.length) c
 |i,[],c=>by simp[fL]
 |i,x::r,c=>by simp only[List.cons_append,fL,List.length_cons];rw[vY (i+1) r c,show i+1+r.length=i+(r.length+1) by omega]
theorem xC:∀i b,fL key xB aq i (fL key xB aq i b)=b
 |_,[]=>rfl
 |i,c::r=>by rw[fL,fL,xC (i+1) r,UInt8.xor_assoc,UInt8.xor_self,UInt8.xor_zero]
theorem PX (b:aO):vW key xB aq (vW key xB aq b)=b:=xC key xB aq 0 b
theorem H7:∀i b k,k<b.length→at8 (fL key xB aq i b) k=at8 b k^^^CF key xB aq (i+k)
 |i,[],k,h=>by simp at h
 |i,c::r,0,_=>by simp[fL,at8]
 |i,c::r,k+1,h=>by
  have:=H7 (i+1) r k (by simpa using h);rw[show i+1+k=i+(k+1) by omega] at this
  simpa[fL,at8] using this
theorem abb (b:aO)(k:Nat)(h:k<b.length):at8 (vW key xB aq b) k=at8 b k^^^CF key xB aq k:=by
 have:=H7 key xB aq 0 b k h
 rwa [Nat.zero_add] at this
theorem Js (n i:Nat):CF key xB aq (64*n+i)=CF key (xB+BitVec.ofNat 32 n) aq i:=by
 unfold CF;rw[show(64*n+i)/64=n+i/64 by omega,show(64*n+i) % 64=i % 64 by omega]
 congr 2
 apply BitVec.eq_of_toNat_eq;simp only[BitVec.toNat_add,BitVec.toNat_ofNat];omega
theorem xD (n:Nat):∀i b,fL key xB aq (64*n+i) b=fL key (xB+BitVec.ofNat 32 n) aq i b
 |_,[]=>rfl
 |i,c::r=>by rw[fL,fL,Js,←xD n (i+1) r,Nat.add_assoc]
theorem PY (b:aO)(n:Nat):vW key xB aq b=vW key xB aq (b.take (min (64*n) b.length))++vW key (xB+BitVec.ofNat 32 n) aq (b.drop (min (64*n) b.length)):=by
 unfold vW
 by_cases h:64*n≤b.length
 ·rw[Nat.min_eq_left h];have e:=vY key xB aq 0 (b.take (64*n)) (b.drop (64*n));rw[List.take_append_drop,List.length_take,Nat.min_eq_left h,Nat.zero_add] at e;rw[e,←xD,Nat.add_zero]
 ·rw[Nat.min_eq_right (by omega)];simp[fL]
theorem Jt (b:aO)(i:Nat)(h:64*i<b.length):
  vW key xB aq (b.take (min (64*i+64) b.length))=vW key xB aq (b.take (64*i))++vW key (xB+BitVec.ofNat 32 i) aq ((b.drop (64*i)).take (min 64 (b.length-64*i))):=by
 obtain⟨m,hm⟩:∃m,m=min (64*i+64) b.length:=⟨_,rfl⟩;rw[←hm];have e:=PY key xB aq (b.take m) i;have h1:(b.take m).length=m:=by rw[List.length_take];omega
 rw[h1,Nat.min_eq_left (show 64*i≤m by omega),List.take_take,Nat.min_eq_left (show 64*i≤m by omega),List.drop_take,show m-64*i=min 64 (b.length-64*i) by omega] at e;exact e
theorem OG (b:aO)(h:b.length≤64):vW key xB aq b=List.zipWith (· ^^^ ·) b (Fb key xB aq):=by
 have hl:=qg key xB aq;apply List.ext_getElem
 ·rw[mf,List.length_zipWith,hl];omega
 ·intro k h1 h2;rw[mf] at h1;have e:=abb key xB aq b k h1;rw[cP _ _ (by rw[mf];exact h1),cP _ _ h1] at e;rw[e,List.getElem_zipWith];unfold CF;rw[Nat.div_eq_of_lt (by omega),Nat.mod_eq_of_lt (by omega),show xB+BitVec.ofNat 32 0=xB from BitVec.add_zero xB,cP _ _ (by omega)]
end
def bS:List Nat→Nat
 |[]=>0
 |c::r=>c+256*bS r
def fR (n:Nat):List Nat:=if h:n=0 then[] else n % 256::fR (n/256)
theorem jw:fR 0=[]:=by unfold fR;simp
theorem rE (n:Nat)(h:n≠0):fR n=n % 256::fR (n/256):=by rw[fR];simp[h]
theorem dO:∀n,bS (fR n)=n:=by
 intro n
 induction n using Nat.strongRecOn with
 |_ n ih=>
  by_cases h:n=0
  ·rw[h,jw];rfl
  ·rw[rE n h,bS,ih (n/256) (by omega)];omega
theorem gJ:∀n,∀x∈fR n,x<256:=by
 intro n
 induction n using Nat.strongRecOn with
 |_ n ih=>
  intro x hx
  by_cases h:n=0
  ·rw[h,jw] at hx;cases hx
  ·rw[rE n h] at hx
   rcases mg.1 hx with rfl|hx
   ·omega
   ·exact ih (n/256) (by omega) x hx
theorem A5:∀a b,bS (a++b)=bS a+256^a.length*bS b
 |[],b=>by simp[bS]
 |c::r,b=>by simp only[List.cons_append,bS,A5 r b,List.length_cons,Nat.pow_succ];rw[Nat.mul_add,←Nat.mul_assoc,Nat.mul_comm (256^r.length) 256,Nat.add_assoc]
theorem sX (a:List Nat)(x:Nat):bS (a++[x])=bS a+256^a.length*x:=by rw[A5];simp[bS]
theorem zb:∀l:List Nat,(∀x∈l,x<256)→bS l<256^l.length
 |[],_=>by simp[bS]
 |c::r,h=>by have h1:=h c (by simp);have h2:=zb r (λx hx=>h x (by simp[hx]));simp only[bS,List.length_cons,Nat.pow_succ];omega
theorem Ju:∀l:List Nat,(∀x∈l,x<256)→(∀x,l.getLast?=some x→x≠0)→fR (bS l)=l
 |[],_,_=>jw
 |c::r,h,hl=>by
  have h1:=h c (by simp);have hr:∀x∈r,x<256:=λx hx=>h x (by simp[hx]);have ih:fR (bS r)=r:=Ju r hr (λx hx=>hl x (by
   cases r with
   |nil=>simp at hx
   |cons d s=>simpa[List.getLast?_cons_cons] using hx))
  have eL:bS (c::r)≠0:=by
   intro h0;simp only[bS] at h0;have kt:c=0:=by omega
   have hr0:bS r=0:=by omega
   rw[hr0,jw] at ih;subst ih;exact hl c (by simp) kt
  rw[rE _ eL];simp only[bS];rw[show(c+256*bS r) % 256=c by omega,show(c+256*bS r)/256=bS r by omega,ih]
theorem dy (n k:Nat)(h:n<256^k):(fR n).length≤k:=by
 induction k generalizing n with
 |zero=>
  have:n=0:=by simpa using h
  rw[this,jw];simp
 |succ k ih=>
  by_cases h0:n=0
  ·rw[h0,jw];simp
  ·rw[rE n h0,List.length_cons];have:=ih (n/256) (by rw[Nat.pow_succ] at h;omega);omega
theorem Xf (n:Nat):fR n=[]↔n=0:=by
 constructor
 ·intro h;have:=dO n;rw[h] at this;exact this.symm
 ·intro h;rw[h,jw]
theorem lX (n:Nat):(fR n).length=0↔n=0:=by rw[List.length_eq_zero_iff,Xf]
def cf (l:List Nat)(i:Nat):Nat:=l.getD i 0
theorem jk (l:List Nat)(i:Nat)(h:i<l.length):cf l i=l[i]:=by simp[cf,h]
theorem t8 (l:List Nat)(i:Nat)(h:l.length≤i):cf l i=0:=by simp[cf,List.getElem?_eq_none h]
theorem zd (l:List Nat)(i:Nat)(h:i<l.length):cf l i∈l:=by rw[jk l i h];exact List.getElem_mem h
theorem pn (l:List Nat)(hl:∀x∈l,x<256)(i:Nat):cf l i<256:=by
 rcases Nat.lt_or_ge i l.length with h|h
 ·exact hl _ (zd l i h)
 ·rw[t8 l i h];omega
theorem rF:∀(l:List Nat),(∀x∈l,x<256)→∀i,bS l/256^i % 256=cf l i
 |[],_,i=>by simp[bS,cf]
 |c::r,h,0=>by have h1:=h c (by simp);simp only[bS,Nat.pow_zero,Nat.div_one];simp[cf];omega
 |c::r,h,i+1=>by have h1:=h c (by simp);have ih:=rF r (λx hx=>h x (by simp[hx])) i;rw[Nat.pow_succ,Nat.mul_comm,←Nat.div_div_eq_div_mul];simp only[bS];rw[show(c+256*bS r)/256=bS r by omega,ih];simp[cf]
theorem Mg (n i:Nat):cf (fR n) i=n/256^i % 256:=by have:=rF (fR n) (gJ n) i;rw[dO] at this;exact this.symm
theorem An (l:List Nat)(k:Nat)(h:k<l.length):l.take (k+1)=l.take k++[cf l k]:=by rw[List.take_succ_eq_append_getElem h,jk l k h]
theorem iN (l:List Nat)(k:Nat)(h:k<l.length):bS (l.take (k+1))=bS (l.take k)+256^k*cf l k:=by rw[An l k h,sX,List.length_take,Nat.min_eq_left (by omega)]
theorem PZ (l:List Nat)(k:Nat)(h:k<l.length)(h0:cf l k=0):bS (l.take (k+1))=bS (l.take k):=by rw[iN l k h,h0];simp
theorem ze:∀(l:List Nat) (i x:Nat),i<l.length→bS (l.set i (cf l i+x))=bS l+256^i*x
 |[],i,x,h=>by simp at h
 |c::r,0,x,h=>by simp[bS,cf];omega
 |c::r,i+1,x,h=>by
  have ih:=ze r i x (by simpa using h);have e:cf (c::r) (i+1)=cf r i:=by simp[cf]
  rw[e];simp only[List.set_cons_succ,bS,ih];rw[Nat.mul_add,Nat.pow_succ,←Nat.mul_assoc,Nat.mul_comm 256 (256^i),Nat.add_assoc]
theorem t9 (l:List Nat)(i x:Nat)(h:i<l.length):cf (l.set i x) i=x:=by simp[cf,h]
theorem fN (l:List Nat)(i j x:Nat)(h:i≠j):cf (l.set i x) j=cf l j:=by simp[cf,List.getElem?_set_ne h]
theorem vZ (n:Nat):bS (cz n 0)=0:=by
 induction n with
 |zero=>rfl
 |succ n ih=>rw[List.replicate_succ,bS,ih]
theorem sj (n i:Nat):cf (cz n 0) i=0:=by
 rcases Nat.lt_or_ge i n with h|h
 ·simp[cf,h]
 ·rw[t8 _ _ (by simpa using h)]
def eu (y m:Nat):List Nat:=(List.range m).map λj=>y/256^j % 256
theorem Fc (y m:Nat):(eu y m).length=m:=by simp[eu]
theorem jU (y m:Nat):eu y (m+1)=eu y m++[y/256^m % 256]:=by simp[eu,List.range_succ]
theorem FK (y m:Nat):∀x∈eu y m,x<256:=by intro x hx;simp only[eu,List.mem_map] at hx;obtain⟨j,_,rfl⟩:=hx;omega
theorem A6 (y:Nat):∀m,bS (eu y m)=y % 256^m
 |0=>by simp[eu,bS,Nat.mod_one]
 |m+1=>by rw[jU,sX,Fc,A6 y m,Nat.pow_succ];exact(Nat.mod_mul).symm
theorem uW (y m:Nat)(h:y<256^m):bS (eu y m)=y:=by rw[A6,Nat.mod_eq_of_lt h]
theorem Fe (n:Nat):n<256^(fR n).length:=by
 have:=zb (fR n) (gJ n)
 rwa [dO] at this
theorem sk (q b:Nat):2^(8*q+b)=256^q*2^b:=by rw[Nat.pow_add,Nat.pow_mul]
theorem P0 (x q b j:Nat)(h:j<q):x % 2^(8*q+b)/256^j % 256=x/256^j % 256:=by obtain⟨d,hd⟩:∃d,8*q+b=8*j+(8+d):=⟨8*q+b-8*j-8,by omega⟩;rw[hd,sk,Nat.mod_mul_right_div_self,Nat.pow_add];exact Nat.mod_mul_right_mod _ _ _
theorem P4 (x q b:Nat)(hb:b<8):x % 2^(8*q+b)/256^q % 256=x/256^q % 256 % 2^b:=by
 rw[sk,Nat.mod_mul_right_div_self];have h1:x/256^q % 2^b<256:=by have:=Nat.mod_lt (x/256^q) (Nat.two_pow_pos b);have h2:2^b≤2^8:=Nat.pow_le_pow_right (by decide) (by omega);omega
 rw[Nat.mod_eq_of_lt h1];have h3:(256:Nat)=2^b*2^(8-b):=by rw[←Nat.pow_add,show b+(8-b)=8 by omega]
 rw[h3,Nat.mod_mul_right_mod]
theorem Jv (y b:Nat)(hb:b<8):y/2^b % 256=y % 256/2^b+(y/256 % 256*2^(8-b)) % 256:=by
 obtain rfl|rfl|rfl|rfl|rfl|rfl|rfl|rfl:b=0∨b=1∨b=2∨b=3∨b=4∨b=5∨b=6∨b=7:=by omega
 all_goals simp only[Nat.reducePow,Nat.reduceSub];omega
theorem Mh (x q b j:Nat)(hb:b<8):x/2^(8*q+b)/256^j % 256=x/256^(q+j) % 256/2^b+(x/256^(q+j+1) % 256*2^(8-b)) % 256:=by
 have e:x/2^(8*q+b)/256^j=x/256^(q+j)/2^b:=by
  rw[Nat.div_div_eq_div_mul,Nat.div_div_eq_div_mul,sk,Nat.pow_add]
  congr 1
  rw[Nat.mul_assoc,Nat.mul_comm (2^b),←Nat.mul_assoc]
 rw[e,Jv _ _ hb,Nat.pow_succ,Nat.div_div_eq_div_mul]
def SL (i:Nat)(c:UInt8):UInt8:=if i % 4=3 then UInt8.ofNat (c.toNat % 16) else if i % 4=0∧i≠0 then UInt8.ofNat (c.toNat/4*4) else c
def iO (key:aO):aO:=(List.range 16).map λi=>SL i (at8 key i)
theorem sm (key:aO):(iO key).length=16:=by simp[iO]
def iP (key:aO):Nat:=fc (iO key)
def sY (key:aO):Nat:=fc (fQ key 16 16)
def gP:Nat:=2^130-5
def rG (l:aO)(k:Nat):Nat:=fc (fQ l (16*k) 16++[1])
def jV (r:Nat)(l:aO):Nat→Nat
 |0=>0
 |k+1=>(jV r l k+rG l k)*r % gP
def Jw (len:Nat):Nat:=(len+15)/16
def tag (key l:aO):aO:=zA 16 (jV (iP key) l (Jw l.length)+sY key)
theorem CH (key l:aO):(tag key l).length=16:=aaa _ _
theorem P5 (r:Nat)(l:aO)(k:Nat):jV r l k<gP:=by
 cases k with
 |zero=>show 0<gP;decide
 |succ k=>exact Nat.mod_lt _ (by decide)
theorem CI (l:aO)(k:Nat):rG l k<256^17:=by
 have h:=jD (fQ l (16*k) 16++[1]);have h2:(fQ l (16*k) 16++[1]).length≤17:=by simp[fQ];omega
 exact tV h (Nat.pow_le_pow_right (by decide) h2)
theorem CJ (key:aO):iP key<256^16:=by
 have:=jD (iO key)
 rwa [sm] at this
theorem CK (key:aO):sY key<256^16:=by
 have h:=jD (fQ key 16 16);have h2:(fQ key 16 16).length≤16:=by simp[fQ];omega
 exact tV h (Nat.pow_le_pow_right (by decide) h2)
theorem CL:∀l:aO,bS (l.map λc=>c.toNat)=fc l
 |[]=>rfl
 |c::r=>by simp only[List.map_cons,bS,CL r,fc]
def iF (n:Nat):Nat:=(16-n % 16) % 16
def jW (l:aO):aO:=l++cz (iF l.length) 0
theorem GU (l:aO):(jW l).length=l.length+iF l.length:=by simp[jW]
theorem Ao (l:aO):(l.length+iF l.length) % 16=0:=by unfold iF;omega
def tagged (ad ct:aO):aO:=jW ad++jW ct++zA 8 ad.length++zA 8 ct.length
def jl (key aq ad ct:aO):aO:=tag ((Fb key 0#32 aq).take 32) (tagged ad ct)
theorem jX (key aq ad ct:aO):(jl key aq ad ct).length=16:=CH _ _
def ku (key aq ad b:aO):aO:=vW key 1#32 aq b++jl key aq ad (vW key 1#32 aq b)
theorem nz (key aq ad b:aO):(ku key aq ad b).length=b.length+16:=by rw[ku,List.length_append,mf,jX]
def po (key aq ad b:aO):Prop:=16≤b.length∧b.drop (b.length-16)=jl key aq ad (b.take (b.length-16))
def jx (key aq b:aO):aO:=vW key 1#32 aq (b.take (b.length-16))
theorem CM (key aq ad b:aO):(ku key aq ad b).take b.length=vW key 1#32 aq b:=by unfold ku;rw[←mf key 1#32 aq b,List.take_left]
theorem Mi (key aq ad b:aO):(ku key aq ad b).drop b.length=jl key aq ad (vW key 1#32 aq b):=by unfold ku;rw[←mf key 1#32 aq b,List.drop_left]
theorem Jx (key aq ad b:aO):po key aq ad (ku key aq ad b):=by unfold po;rw[nz,Nat.add_sub_cancel,CM,Mi];exact⟨by omega,rfl⟩
theorem sZ (key aq ad b:aO):jx key aq (ku key aq ad b)=b:=by unfold jx;rw[nz,Nat.add_sub_cancel,CM,PX]
def ZB (x:BitVec 32)(n:Int):BitVec 32:=rotl x (32-n)
def oN (v:List (BitVec 32))(a b:Nat)(x:BitVec 32):List (BitVec 32):=v.set a (bG v a+bG v b+x)
def oO (v:List (BitVec 32))(c d:Nat):List (BitVec 32):=v.set c (bG v c+bG v d)
def kO (v:List (BitVec 32))(d a:Nat)(n:Int):List (BitVec 32):=v.set d (ZB (bG v d^^^bG v a) n)
def zf (v:List (BitVec 32))(a b c d:Nat)(x y:BitVec 32):List (BitVec 32):=
 kO (oO (kO (oN (kO (oO (kO (oN v a b x) d a 16) c d) b c 12) a b y) d a 8) c d) b c 7
theorem A7 (v:List (BitVec 32))(a b c d:Nat)(x y:BitVec 32):(zf v a b c d x y).length=v.length:=by simp[zf,kO,oO,oN]
def A8:List (BitVec 32):=[0x6a09e667#32,0xbb67ae85#32,0x3c6ef372#32,0xa54ff53a#32,0x510e527f#32,0x9b05688c#32,0x1f83d9ab#32,0x5be0cd19#32]
def ZO:List (List Nat):=[
 [0,1,2,3,4,5,6,7,8,9,10,11,12,13,14,15],
 [14,10,4,8,9,15,13,6,1,12,0,2,11,7,5,3],
 [11,8,12,0,5,2,15,13,10,14,3,6,7,1,9,4],
 [7,9,3,1,13,12,11,14,2,6,5,10,4,0,15,8],
 [9,0,5,7,2,4,10,15,14,1,11,12,6,8,3,13],
 [2,12,6,10,0,11,8,3,4,13,7,5,15,14,1,9],
 [12,5,1,15,14,13,4,10,0,7,6,3,9,2,8,11],
 [13,11,7,14,12,1,3,9,5,0,15,4,8,6,2,10],
 [6,15,14,9,11,3,0,8,12,2,13,7,1,4,10,5],
 [10,2,8,4,7,6,1,5,15,11,9,14,3,12,13,0]]
def sig (i k:Nat):Nat:=(ZO.getD i []).getD k 0
theorem CN:∀i k:Nat,i<10→k<16→sig i k<16:=by
 have h:∀i:Fin 10,∀k:Fin 16,sig i.val k.val<16:=by decide
 intro i k hi hk;exact h ⟨i,hi⟩ ⟨k,hk⟩
def fX (i:Nat)(m:List (BitVec 32)):Nat→List (BitVec 32)→List (BitVec 32)
 |0,v=>v
 |k+1,v=>zf (fX i m k v) k (4+k) (8+k) (12+k) (bG m (sig i (2*k))) (bG m (sig i (2*k+1)))
def fk (i:Nat)(m:List (BitVec 32)):Nat→List (BitVec 32)→List (BitVec 32)
 |0,v=>v
 |k+1,v=>zf (fk i m k v) k (4+(k+1) % 4) (8+(k+2) % 4) (12+(k+3) % 4) (bG m (sig i (8+2*k))) (bG m (sig i (9+2*k)))
def cQ (m:List (BitVec 32)):Nat→List (BitVec 32)→List (BitVec 32)
 |0,v=>v
 |i+1,v=>fk i m 4 (fX i m 4 (cQ m i v))
theorem ud (i:Nat)(m v:List (BitVec 32)):∀k,(fX i m k v).length=v.length
 |0=>rfl
 |k+1=>by rw[fX,A7,ud i m v k]
theorem qh (i:Nat)(m v:List (BitVec 32)):∀k,(fk i m k v).length=v.length
 |0=>rfl
 |k+1=>by rw[fk,A7,qh i m v k]
theorem nA (m v:List (BitVec 32)):∀i,(cQ m i v).length=v.length
 |0=>rfl
 |i+1=>by rw[cQ,qh,ud,nA m v i]
def iq (h:List (BitVec 32))(t:Nat)(last:Bool):List (BitVec 32):=
 let v:=h++A8
 let v1:=v.set 12 (bG v 12^^^BitVec.ofNat 32 t)
 let v2:=v1.set 13 (bG v1 13^^^BitVec.ofNat 32 (t/4294967296))
 if last then v2.set 14 (bG v2 14^^^0xffffffff#32) else v2
theorem lg (h:List (BitVec 32))(t:Nat)(last:Bool)(hh:h.length=8):(iq h t last).length=16:=by unfold iq;cases last<;>simp[hh,A8]
def lh (h:List (BitVec 32))(b:aO)(t:Nat)(last:Bool):List (BitVec 32):=
 (List.range 8).map λi=>bG h i^^^bG (cQ (eN b 16) 10 (iq h t last)) i^^^bG (cQ (eN b 16) 10 (iq h t last)) (8+i)
theorem gQ (h:List (BitVec 32))(b:aO)(t:Nat)(last:Bool):(lh h b t last).length=8:=by simp[lh]
def Mj:List (BitVec 32):=A8.set 0 0x6b08e647#32
def cX (b:aO):Nat→List (BitVec 32)
 |0=>Mj
 |k+1=>lh (cX b k) (fQ b (64*k) 64) (64*(k+1)) false
def qj (n:Nat):Nat:=(n-1)/64
def blast (b:aO):aO:=b.drop (64*qj b.length)++cz (64-(b.length-64*qj b.length)) 0
theorem GV (b:aO):(blast b).length=64:=by unfold blast qj;simp;omega
def ew:List (BitVec 32)→aO
 |[]=>[]
 |x::r=>zA 4 x.toNat++ew r
theorem sr:∀a b,ew (a++b)=ew a++ew b
 |[],b=>rfl
 |x::r,b=>by rw[List.cons_append,ew,ew,sr r b,List.append_assoc]
theorem jA:∀l,(ew l).length=4*l.length
 |[]=>rfl
 |x::r=>by rw[ew,List.length_append,aaa,jA r,List.length_cons];omega
def dc (b:aO):aO:=ew (lh (cX b (qj b.length)) (blast b) b.length true)
theorem eM (b:aO):(dc b).length=32:=by rw[dc,jA,gQ]
theorem GW {k:IntKind}{a b:Int}(h:a=b):Ending.returned (.int k a)= .returned (.int k b):=by rw[h]
theorem SN (x:BitVec 32)(n:Int)(w:aw):
  Calls prog 170 #[.int .u32 (x.toNat:Int),.int .i64 n] w λe w'=>e= .returned (.int .u32 ((rotl x n).toNat:Int))∧w'=w:=by
 have h1:=afC n;have h2:0≤n % 32:=by omega
 have h3:n % 32≤31:=by omega
 have H:=Jq x n;have HH:ae (bits .or .u32 ((x.toNat:Int)*2^(n % 32).toNat % 4294967296) ((x.toNat:Int)/2^(32-n % 32).toNat)=((rotl x n).toNat:Int)):=H;clear H
 go_enter func170,ntmps170
 go_wp2
 go_ret
 exact⟨GW HH.o,rfl⟩
theorem OH (x:BitVec 32)(n:Int)(w:aw):
  Calls prog 163 #[.int .u32 (x.toNat:Int),.int .i64 n] w λe w'=>e= .returned (.int .u32 ((rotl x n).toNat:Int))∧w'=w:=by
 go_enter func163,ntmps163
 go_wp2_with (go_at_call 170;refine(SN _ _ _).mono ?_;rintro e w' ⟨rfl,rfl⟩)
 go_ret
 exact⟨rfl,rfl⟩
theorem OI {k:IntKind}{a b:Int}{v:Value}(h:a=b):Ending.returned (.tuple #[.int k a,v])= .returned (.tuple #[.int k b,v]):=by rw[h]
theorem FL (i size:Int)(eo:Bool)(w:aw)(h0:0≤i)(h1:i<size)(h2:size≤8):
  Calls prog 97 #[.int .i64 i,.int .i64 size,.bool eo] w λe w'=>e= .returned (.int .i64 (8*vU eo size i))∧w'=w:=by
 cases eo
 all_goals
  go_enter func97,ntmps97
  go_wp2
  go_ret
  exact⟨rfl,rfl⟩
theorem ue (b off len cap:Nat)(at_ size:Nat)(eo:Bool)(l:aO)(w:aw)(hm:cap≤maxLen)(ig:len≤cap)
  (hB:bj w (some ⟨b,off,none⟩) len l) (h1:1≤size) (h8:size≤8) (h:at_+size≤len):
  Calls prog 68 #[.slice (some ⟨b,off,none⟩) len cap,.int .i64 at_,.int .i64 size,.bool eo] w λe w'=>e= .returned (.tuple #[.int .u64 (sW l eo at_ size:Int),.bool true])∧w'=w:=by
 unfold maxLen at hm;obtain⟨hl,hB⟩:=hB;have g1:¬(size:Int)<1:=by omega
 have g2:¬(8:Int)<size:=by omega
 have g3:¬(at_:Int)<0:=by omega
 have g4:¬(len:Int)-size<at_:=by omega
 go_enter func68,ntmps68
 go_wp2
 go_loop [10,38] (λn i=>∃k:Nat,k≤size∧i= .int .i64 k∧n= .int .u64 (vC (fQ l at_ size) eo k:Int)) (λ_ i=>size-(intOf i).toNat)
 case atStart=>exact⟨0,Nat.zero_le _,rfl,by rw[PV];rfl⟩
 case round=>
  obtain⟨k,hk,rfl,rfl⟩:=hrel
  by_cases dN:k<size
  ·rcases hB with h0|⟨b',kf,e,hc⟩
   ·omega
   ·cases e
    have hck:=hc (at_+k) (by omega);rw[←Nat.add_assoc] at hck;have hb:=SD l (at_+k);have hp:=x6 eo size k (by omega) (by omega);obtain⟨Xg,uX⟩:=hp;have HS:ae (bits .or .u64 (vC (fQ l at_ size) eo k:Int) (IntKind.u64.wrap (((at8 l (at_+k)).toNat:Int)*2^(8*vU eo size k).toNat))=(vC (fQ l at_ size) eo (k+1):Int)):=by have e1:=vT l at_ size (by omega);have e:=SH (fQ l at_ size) eo k (by omega) (by omega);rw[e1,OD l at_ size k dN] at e;show _=_;rw[IntKind.wrap_u64];exact e
    go_wp2_with fail
    refine(FL _ _ _ _ (by omega) (by omega) (by omega)).mono ?_;rintro e w' ⟨rfl,rfl⟩
    go_wp2
    exact⟨⟨k+1,by omega,by go_num,by rw[HS.o]⟩,by simp[intOf];omega⟩
  ·have HE:ae (vC (fQ l at_ size) eo k=sW l eo at_ size):=by
    have e1:=vT l at_ size (by omega);have e2:k=(fQ l at_ size).length:=by omega
    show _=_;rw[e2,SG];rfl
   go_wp2
   go_ret2
   exact⟨OI (by rw[HE.o]),rfl⟩
theorem Tryz.infoU8:(prog.info? 5).map (λi=>(i.zero,i.size,i.bytes))=some (some (.int .u8 0),1,1):=by kernel_rfl
theorem Tryz.info1U8:(prog.info? 5).map (·.size)=some 1:=by kernel_rfl
def uY (l:aO)(sz n:Nat)(eo:Bool)(k:Nat):bK:=(l++(im sz n eo).take k).map bv
theorem x7 (l:aO)(sz n:Nat)(eo:Bool)(k:Nat)(h:k<sz):uY l sz n eo (k+1)=uY l sz n eo k++[bv (at8 (im sz n eo) k)]:=by unfold uY;rw[tW _ _ (by rw[eU];exact h)];simp
theorem CO (w:aw)(n m:Nat)(h:n+m≤2000000):
  ∃Z:bK,Z.length=n+m∧(Instr.makeSlice 22 (.int .i64 (n:Int)) (.int .i64 ((n:Int)+(m:Int)))).run prog w= .ok (.slice (some ⟨w.heap.size,0,none⟩) n (n+m)) (w.alloc (.cells Z.toArray 5)):=by
 obtain⟨i0,hi,uf,pH,uZ⟩:=info_parts Tryz.infoU8;have hr:=run_make (P:=prog) w 22 5 i0 (.int .u8 0) underlying22 hi uf .i64 .i64 (n:Int) ((n:Int)+(m:Int)) (by omega) (by omega) (by rw[uZ];omega) (by omega);have e1:((n:Int)).toNat=n:=by omega
 have e2:((n:Int)+(m:Int)).toNat=n+m:=by omega
 rw[e1,e2,pH,Nat.mul_one] at hr;exact⟨(madeCells (Value.int .u8 0).cells (n+m)).toList,by simp[size_madeCells],by simpa using hr⟩
theorem Mm (w:aw)(a:bW)(len cap m:Nat)(l:aO)(hB:bj w a len l)(Z:bK)(hZ:Z.length=len+m)(hm:len+m≤maxLen):
  ∃w2,(Builtin.copy_ #[22,22] 3 #[.slice (some ⟨w.heap.size,0,none⟩) len (len+m),.slice a len cap]).run prog (w.alloc (.cells Z.toArray 5))= .ok (.int .i64 (len:Int)) w2∧
   w2.ownsRow w.heap.size 5 1 (.slice (some ⟨w.heap.size,0,none⟩) len (len+m)) len (l.map bv)∧Below w.heap.size w w2:=by
 have hl:=hB.1;have fe:Below w.heap.size w (w.alloc (.cells Z.toArray 5)):=eF;have hg:(w.alloc (.cells Z.toArray 5)).heap[w.heap.size]?=some (.cells Z.toArray 5 (0,0)):=eC w _
 by_cases h0:len=0
 ·have hr:=run_copy_none (P:=prog) (w.alloc (.cells Z.toArray 5)) 22 22 3 5 (some ⟨w.heap.size,0,none⟩) a len (len+m) len cap underlying22 Tryz.info1U8 (by rw[h0];rfl);subst h0;obtain rfl:l=[]:=List.eq_nil_of_length_eq_zero hl;exact⟨_,hr,⟨by simp,.inr ⟨w.heap.size,0+m,Z.toArray,rfl,di _,hg,by omega,hm,by simpa using hZ,by simp⟩⟩,fe⟩
 ·rcases hB.2 with h|⟨b,off,rfl,hc⟩
  ·exact absurd h h0
  ·have hr:=run_copy_row prog (w.alloc (.cells Z.toArray 5)) 22 22 3 5 w.heap.size 0 len (len+m) ⟨b,off,none⟩ len cap Z.toArray 5 (l.map bv) underlying22 Tryz.info1U8 hg
    (by rw[List.length_map,hl];exact(Nat.min_self len).symm) ((hB.later fe).cells _ rfl) (by simp;omega) (bd l)
   have ZP:=hr;rw[List.length_map,hl] at ZP;refine⟨_,ZP,?_,below_setRow fe (di _) _⟩
   ·refine⟨by simp[hl],.inr ⟨w.heap.size,len+m,_,rfl,di _,setRow_heap _ _ _ _ _ _ hg,by omega,hm,?_,?_⟩⟩
    ·simp;omega
    ·simp[hl]
theorem ug (a:bW)(len cap:Nat)(size:Int)(n:Nat)(eo:Bool)(l:aO)(w:aw)(hm:len≤1000000)
  (hB:bj w a len l) (sz:Nat) (jH:(sz:Int)=min (max size 0) 8):
  Calls prog 76 #[.slice a len cap,.int .i64 size,.int .u64 (n:Int),.bool eo] w λe w'=>∃g,e= .returned (.slice (some ⟨g,0,none⟩) (len+sz) (len+sz))∧w.heap.size≤g∧Below w.heap.size w w'∧bj w' (some ⟨g,0,none⟩) (len+sz) (l++im sz n eo):=by
 have Xh:=hB;obtain⟨hl,hB⟩:=hB;obtain⟨mx,e1⟩:=aW ((if size<0 then(0:Int) else size):Int);have e2:(if 8<mx then(8:Int) else mx)=(sz:Int):=by rw[jH,←e1];split<;>split<;>omega
 have jm:sz≤8:=by omega
 clear jH
 go_enter func76,ntmps76
 obtain⟨Z,Jy,vD⟩:=CO w len sz (by omega);obtain⟨w2,lY,OJ,cM⟩:=Mm w a len cap sz l Xh Z Jy (by unfold maxLen;omega);obtain⟨i0,hi,uf,pH,uZ⟩:=info_parts Tryz.infoU8;have arh:=cM.size
 go_wp2
 go_loopw [9,25] (λv i wr=>∃k:Nat,k≤sz∧i= .int .i64 k∧v= .slice (some ⟨w.heap.size,0,none⟩) (len+k) (len+sz)∧
   wr.ownsRow w.heap.size 5 1 (.slice (some ⟨w.heap.size,0,none⟩) (len+k) (len+sz)) (len+k) (uY l sz n eo k)∧Below w.heap.size w wr) (λ_ i _=>sz-(intOf i).toNat)
 case atStart=>exact⟨0,Nat.zero_le _,rfl,rfl,by simpa[uY] using OJ,cM⟩
 case round=>
  obtain⟨k,hk,rfl,rfl,ff,fe⟩:=hrel
  by_cases dN:k<sz
  ·obtain⟨Xg,uX⟩:=x6 eo sz k (by omega) (by omega)
   go_wp2_with fail
   refine(FL _ _ _ _ (by omega) (by omega) (by omega)).mono ?_;rintro e w' ⟨rfl,rfl⟩
   go_wp2_with (first
    |(at_builtin;refine wpList_append_fits _ rfl (.tmp 28) (.tmp 36) 22 rfl w.heap.size 5 i0 1 underlying22 hi pH w.heap.size (len+k) (len+sz) (uY l sz n eo k) rfl ?c0 ⟨w'.heap.size,0,none⟩ 1 1 [bv (at8 (im sz n eo) k)] rfl rfl ?c1 ?c2 ?c3 ?_))
   case c0=>exact ff.alloc _
   case c1=>
    have hv:bv (at8 (im sz n eo) k)= .int .u8 ((n:Int)/2^(8*vU eo sz k).toNat % 256):=by unfold bv;rw[OE sz n eo k dN]
    rw[hv];exact cell_one_new _ _ _
   case c2=>exact bd [at8 (im sz n eo) k]
   case c3=>omega
   intro w1 A9 abc;have ck:Below w.heap.size w w1:=((fe.alloc fe.size _).grown abc (by have:=fe.size;simp;omega) (by intro j hj;cases hj;exact di _));have H1:ae (w1.ownsRow w.heap.size 5 1 (.slice (some ⟨w.heap.size,0,none⟩) (len+(k+1)) (len+sz)) (len+(k+1)) (uY l sz n eo (k+1))):=by show World.ownsRow _ _ _ _ _ _ _;rw[x7 l sz n eo k dN];exact A9
   clear A9
   go_wp2
   exact⟨⟨k+1,by omega,by go_num,rfl,H1.o,ck⟩,by simp[intOf];omega⟩
  ·go_wp2
   go_ret
   have ek:k=sz:=by omega
   subst ek;refine⟨w.heap.size,rfl,di _,fe,?_⟩;have hf:=bj.jT (l:=l++(im k n eo).take k) ff
   rwa [su (by rw[eU];exact di _)] at hf
def S (l:aO):ByteArray:=⟨l.toArray⟩
theorem zg (l:aO):(S l).toList=l:=by rw[ByteArray.toList_eq];rfl
theorem Ba (l m:aO):((S l).toList==(S m).toList)=decide (l=m):=by
 rw[zg,zg]
 by_cases h:l=m
 ·rw[h];simp
 ·simp[h]
theorem eG (w:aw)(a:bW)(len cap:Nat)(l:aO)(hB:bj w a len l):
  (convert 22 9 (.slice a len cap)).run prog w= .ok (.string (S l)) w:=by
 have hl:=hB.1
 rcases hB.2 with h0|⟨b,off,rfl,hc⟩
 ·have e:l=[]:=List.eq_nil_of_length_eq_zero (by omega);subst e;cases a with
  |none=>exact run_convert_bytes_nil (P:=prog) w 22 5 underlying22 underlying5 len cap 9 underlying9
  |some x=>
   rw[run_convert_bytes_string w 22 9 5 _ len cap underlying22 underlying5 underlying9];rw[run_bytesToString w x len cap [] (by rw[h0];rfl)];rfl
 ·have h:=run_convert_bytes_arg (P:=prog) w 22 5 underlying22 underlying5 b off len cap (l.map λc=>(c.toNat:Int)) (by simpa using hl)
   (λi hi=>by rw[hc i hi,cP l i (by omega)];simp[show i<l.length by omega]) 9 underlying9
  rw[h];have e:strOfNums (l.map λc=>(c.toNat:Int))=S l:=by
   unfold strOfNums S;rw[List.map_map]
   congr 2
   have hid:((λn:Int=>UInt8.ofNat n.toNat)∘λc:UInt8=>(c.toNat:Int))=id:=by
    funext c
    simp
   rw[hid,List.map_id]
  rw[e]
theorem SP {a b:Bool}(h:a=b):Ending.returned (.bool a)= .returned (.bool b):=by rw[h]
theorem P6 (a b:bW)(len cap eg fT:Nat)(l m:aO)(w:aw)(hA:bj w a len l)(hB:bj w b eg m):
  Calls prog 152 #[.slice a len cap,.slice b eg fT] w λe w'=>e= .returned (.bool (decide (l=m)))∧w'=w:=by
 have h1:=eG w a len cap l hA;have h2:=eG w b eg fT m hB
 go_enter func152,ntmps152
 go_wp2
 go_ret
 exact⟨SP (Ba l m),rfl⟩
theorem Jz (a b:bW)(len cap eg fT:Nat)(l m:aO)(w:aw)(hA:bj w a len l)(hB:bj w b eg m):
  Calls prog 142 #[.slice a len cap,.slice b eg fT] w λe w'=>e= .returned (.bool (decide (l=m)))∧w'=w:=by
 go_enter func142,ntmps142
 go_wp2_with (go_at_call 152;refine(P6 _ _ _ _ _ _ l m _ hA hB).mono ?_;rintro e w' ⟨rfl,rfl⟩)
 go_ret
 exact⟨rfl,rfl⟩
def kU (l m:aO):aO:=List.zipWith (· ^^^ ·) l m
theorem JA (a b:UInt8):bits .xor .u8 (a.toNat:Int) (b.toNat:Int)=((a^^^b).toNat:Int):=by rw[u8_xor_nat _ _ (a.toNat_lt) (b.toNat_lt),UInt8.toNat_xor]
theorem gR (l m:aO):(kU l m).length=min l.length m.length:=by simp[kU]
theorem GX (l m:aO)(k:Nat)(h1:k<l.length)(h2:k<m.length):at8 (kU l m) k=at8 l k^^^at8 m k:=by rw[cP _ _ (by rw[gR];omega),cP _ _ h1,cP _ _ h2];simp[kU]
def zh (l m:aO)(n k:Nat):bK:=((kU l m).take k).map bv++cz (n-k) (.int .u8 0)
theorem Mn (l m:aO)(n k:Nat)(hn:n=min l.length m.length)(h:k<n):(zh l m n k).set k (bv (at8 l k^^^at8 m k))=zh l m n (k+1):=by
 unfold zh;have hk:(((kU l m).take k).map bv).length=k:=by simp[gR];omega
 rw[List.set_append_right _ _ (by rw[hk];exact di _),hk,Nat.sub_self,tW _ _ (by rw[gR];omega),GX _ _ _ (by omega) (by omega)];rw[show n-k=(n-(k+1))+1 by omega,List.replicate_succ];simp
theorem FM (w:aw)(n:Nat)(h:n≤2000000):
  ∃w1,(Instr.makeSlice 22 (.int .i64 (n:Int)) (.int .i64 (n:Int))).run prog w= .ok (.slice (some ⟨w.heap.size,0,none⟩) n n) w1∧
   w1.ownsRow w.heap.size 5 1 (.slice (some ⟨w.heap.size,0,none⟩) n n) n (cz n (.int .u8 0))∧Below w.heap.size w w1:=by
 obtain⟨i0,hi,uf,pH,uZ⟩:=info_parts Tryz.infoU8;obtain⟨w1,h1,h2,h3⟩:=run_make_full (P:=prog) w w.heap.size 22 5 i0 (.int .u8 0) 1 underlying22 hi uf pH .i64 .i64 n (by rw[uZ];omega) (by unfold maxLen;omega) (di _);refine⟨w1,h1,?_,(bZ _ _).grown h3 (di _) (by intro k hk;cases hk)⟩;have e:(madeCells (Value.int .u8 0).cells (n*1)).toList=cz n (.int .u8 0):=by rw[Nat.mul_one];exact toList_madeCells_one _ _
 rwa [e] at h2
theorem Xi (a b:bW)(len cap eg fT:Nat)(l m:aO)(w:aw)(hA:bj w a len l)(hB:bj w b eg m)(EU:len≤1000000)(FN:eg≤1000000):
  Calls prog 155 #[.slice a len cap,.slice b eg fT] w λe w'=>∃g,e= .returned (.slice (some ⟨g,0,none⟩) (min len eg) (min len eg))∧w.heap.size≤g∧Below w.heap.size w w'∧bj w' (some ⟨g,0,none⟩) (min len eg) (kU l m):=by
 obtain⟨n,hn⟩:∃n,n=min len eg:=⟨_,rfl⟩;rw[←hn];obtain⟨w1,vD,A9,ck⟩:=FM w n (by omega);have e1:(if eg<len then(eg:Int) else(len:Int))=(n:Int):=by split<;>omega
 have Hn:ae (n=min len eg):=hn;have s9:n≤len:=by omega
 have tL:n≤eg:=by omega
 clear hn
 go_enter func155,ntmps155
 go_wp2
 go_loopw [15] (λi wr=>∃k:Nat,k≤n∧i= .int .i64 k∧wr.ownsRow w.heap.size 5 1 (.slice (some ⟨w.heap.size,0,none⟩) n n) n (zh l m n k)∧Below w.heap.size w wr) (λi _=>n-(intOf i).toNat)
 case atStart=>exact⟨0,Nat.zero_le _,rfl,by simpa[zh] using A9,ck⟩
 case round=>
  obtain⟨k,hk,rfl,ff,fe⟩:=hrel;have Xj:=hA.1;have Wq:=hB.1
  by_cases dN:k<n
  ·rcases hA.2 with h0|⟨ba,fz,rfl,GY⟩
   ·omega
   rcases hB.2 with h0|⟨bb,CR,rfl,rf⟩
   ·omega
   have JB:=GY k (by omega);have JC:=rf k (by omega);have JD:=World.block_lt_of_cell? w _ JB;have BN:=World.block_lt_of_cell? w _ JC;have JE:wr.cell? ⟨ba,fz+k,none⟩=some (.int .u8 ((at8 l k).toNat:Int)):=by rw[fe.cell (p:=⟨ba,fz+k,none⟩) JD];exact JB
   have cM:wr.cell? ⟨bb,CR+k,none⟩=some (.int .u8 ((at8 m k).toNat:Int)):=by rw[fe.cell (p:=⟨bb,CR+k,none⟩) BN];exact JC
   have kt:=ff.cellAt k (by omega);have Mp:=ff.frozenAt k;obtain⟨v0,hv0⟩:∃v0,wr.cell? ⟨w.heap.size,k,none⟩=some v0:=by
    rw[kt];have:k<(zh l m n k).length:=by have:=ff.1;omega
    exact⟨_,List.getElem?_eq_getElem this⟩
   have i1:(k:Int)<(len:Int):=by omega
   have i2:(k:Int)<(eg:Int):=by omega
   have i3:(k:Int)<(n:Int):=by omega
   have xv:=JA (at8 l k) (at8 m k);clear kt GY rf A9 ck vD;have H1:ae ((wr.setCell ⟨w.heap.size,k,none⟩ (.int .u8 ((at8 l k^^^at8 m k).toNat:Int))).ownsRow w.heap.size 5 1 (.slice (some ⟨w.heap.size,0,none⟩) n n) n (zh l m n (k+1))):=by show World.ownsRow _ _ _ _ _ _ _;rw[←Mn l m n k (by rw[Xj,Wq];exact Hn.o) dN];exact(ff.stored k _).1
   go_wp2
   go_region
   go_wp2
   exact⟨⟨k+1,by omega,by go_num,H1.o.drew,(fe.setCell (di _) _).drew⟩,by simp[intOf];omega⟩
  ·have ek:k=n:=by omega
   subst ek
   go_wp2
   go_ret
   refine⟨w.heap.size,rfl,di _,fe,?_⟩;have hf:wr.ownsRow w.heap.size 5 1 (.slice (some ⟨w.heap.size,0,none⟩) k k) k ((kU l m).map bv):=by
    have e:zh l m k k=(kU l m).map bv:=by unfold zh;rw[su (by rw[gR,Xj,Wq,←Hn.o];exact di _)];simp
    rw[←e];exact ff
   exact bj.jT hf
def dH (key:aO):aO:=if 64<key.length then dc key else key
theorem xE (key:aO):(dH key).length≤64:=by
 unfold dH;split
 ·rw[eM];omega
 ·omega
def nQ (key:aO):aO:=dH key++cz (64-(dH key).length) 0
theorem Bb (key:aO):(nQ key).length=64:=by have:=xE key;simp[nQ];omega
def rh (c:UInt8):aO:=cz 64 c
def RY (key b:aO):aO:=kU (nQ key) (rh 0x36)++b
def P7 (key b:aO):aO:=kU (nQ key) (rh 0x5c)++dc (RY key b)
def nR (key b:aO):aO:=dc (P7 key b)
theorem cS (key b:aO):(nR key b).length=32:=eM _
def gH (key b:aO):aO:=nR (nR key b) [1]
def nS (key b:aO):aO:=nR (nR key b) (gH key b++[2])
def CS (key b:aO):aO:=nR (nR key b) (nS key b++[3])
theorem Bc (key b:aO):(gH key b).length=32:=cS _ _
theorem Bd (key b:aO):(nS key b).length=32:=cS _ _
def d7 (n:Nat):aO:=cz 4 0++im 8 n false
theorem sv (n:Nat):(d7 n).length=12:=by rw[d7,List.length_append,eU,List.length_replicate]
def gf:Nat:=18446744073709551615
def oP (key:aO)(has:Bool)(n:Nat)(ad b:aO):aO:=if has=false then b else if n=gf then[] else ku key (d7 n) ad b
def sw (has:Bool)(n:Nat):Nat:=if has=false then 0 else if n=gf then 5 else 0
def uh (has:Bool)(n:Nat):Nat:=if has=false then n else if n=gf then n else n+1
def fY (key aq ad b:aO):Bool:=decide (16≤b.length)&&decide (b.drop (b.length-16)=jl key aq ad (b.take (b.length-16)))
theorem wb (key aq ad b:aO):fY key aq ad b=true↔po key aq ad b:=by unfold fY po;rw[Bool.and_eq_true,decide_eq_true_iff,decide_eq_true_iff]
theorem CT (key aq ad b:aO)(h:¬po key aq ad b):fY key aq ad b=false:=by
 cases hs:fY key aq ad b with
 |false=>rfl
 |true=>exact absurd ((wb key aq ad b).1 hs) h
def og (key:aO)(has:Bool)(n:Nat)(ad b:aO):aO:=if has=false then b else if n=gf then[] else if fY key (d7 n) ad b=true then jx key (d7 n) b else[]
def mZ (key:aO)(has:Bool)(n:Nat)(ad b:aO):Nat:=if has=false then 0 else if n=gf then 5 else if fY key (d7 n) ad b=true then 0 else 3
def ri (key:aO)(has:Bool)(n:Nat)(ad b:aO):Nat:=if has=false then n else if n=gf then n else if fY key (d7 n) ad b=true then n+1 else n
theorem pL (key aq b:aO):(jx key aq b).length=b.length-16:=by rw[jx,mf,List.length_take];omega
theorem rH (key:aO)(has:Bool)(n:Nat)(ad b:aO):(oP key has n ad b).length≤b.length+16:=by
 unfold oP;split
 ·omega
 ·split
  ·simp
  ·rw[nz];exact di _
theorem GZ (key:aO)(has:Bool)(n:Nat)(ad b:aO):(og key has n ad b).length≤b.length:=by
 unfold og;split
 ·omega
 ·split
  ·simp
  ·split
   ·rw[pL];omega
   ·simp
def dU (s:aO):aO:=if 32<s.length then dc s else s++cz (32-s.length) 0
theorem nB (s:aO):(dU s).length=32:=by
 unfold dU;split
 ·exact eM _
 ·rw[List.length_append,List.length_replicate];omega
def zi (hash b:aO):aO:=dc (hash++b)
theorem we (hash b:aO):(zi hash b).length=32:=eM _
def xF (hash key:aO)(has:Bool)(n:Nat)(b:aO):aO:=if sw has n=0 then zi hash (oP key has n hash b) else hash
def wg (hash key:aO)(has:Bool)(n:Nat)(b:aO):aO:=if mZ key has n hash b=0 then zi hash b else hash
theorem P8 (key:aO)(has:Bool)(n:Nat)(ad b:aO)(h:n≠gf):og key has n ad (oP key has n ad b)=b∧mZ key has n ad (oP key has n ad b)=0∧ri key has n ad (oP key has n ad b)=uh has n:=by
 cases has with
 |false=>simp[og,oP,mZ,ri,uh]
 |true=>
  have hs:fY key (d7 n) ad (ku key (d7 n) ad b)=true:=(wb _ _ _ _).2 (Jx _ _ _ _);simp[og,oP,mZ,ri,uh,h,hs,sZ]
def bJ:Nat:=57896044618658097711785492504343953926634992332820282019728792003956564819949
theorem Xk:bJ=2^255-19:=by decide
theorem zj:bJ<256^32:=by decide
theorem qk:0<bJ:=by decide
def pD (i:Nat):List Nat:=237::cz (i-1) 255
def Wr:List Nat:=pD 31++[127]
theorem Xl:bS Wr=bJ:=by decide
theorem abd:∀x∈Wr,x<256:=by decide
theorem abe (i:Nat):cf Wr i=bJ/256^i % 256:=by rw[←Xl];exact(rF Wr abd i).symm
def ui:Nat:=bJ-2
def eDs:List Nat:=Wr.set 0 235
theorem Xm:bS eDs=ui:=by decide
theorem abg:∀x∈eDs,x<256:=by decide
theorem SR (i:Nat):cf eDs i=ui/256^i % 256:=by rw[←Xm];exact(rF eDs abg i).symm
theorem SU:ui/2^255=0:=by decide
theorem P9 (E j:Nat):E/2^j=2*(E/2^(j+1))+E/2^j % 2:=by rw[Nat.pow_succ,←Nat.div_div_eq_div_mul];omega
theorem FO (E q s:Nat)(hs:s<8):E/256^q % 256/2^s % 2=E/2^(8*q+s) % 2:=by
 have e:(2:Nat)^(8*q+s)=256^q*2^s:=by rw[Nat.pow_add,Nat.pow_mul]
 rw[e,←Nat.div_div_eq_div_mul];generalize E/256^q=y
 have:s=0∨s=1∨s=2∨s=3∨s=4∨s=5∨s=6∨s=7:=by omega
 rcases this with rfl|rfl|rfl|rfl|rfl|rfl|rfl|rfl<;>simp<;>omega
theorem SW (x E j:Nat)(p:Nat):x^(E/2^j) % p=(if E/2^j % 2=1 then(x^(E/2^(j+1)) % p*(x^(E/2^(j+1)) % p) % p)*x % p else x^(E/2^(j+1)) % p*(x^(E/2^(j+1)) % p) % p):=by
 have h:=P9 E j;generalize E/2^(j+1)=u at h⊢
 generalize E/2^j=v at h⊢
 by_cases h1:v % 2=1
 ·rw[if_pos h1];rw[h,h1,Nat.pow_succ,Nat.two_mul,Nat.pow_add,←Nat.mul_mod,Nat.mod_mul_mod]
 ·rw[if_neg h1];have h0:v % 2=0:=by omega
  rw[h,h0,Nat.add_zero,Nat.two_mul,Nat.pow_add,←Nat.mul_mod]
structure Neg (x i b:Nat)(o:List Nat):Prop where
 len:o.length=i
 lt:∀d∈o,d<256
 bl:b≤1
 val:bS o+x % 256^i=bJ % 256^i+b*256^i
theorem Neg.zero (x:Nat):Neg x 0 0 []:=⟨rfl,by simp,by omega,by simp[bS];omega⟩
theorem mod_succ (x i:Nat):x % 256^(i+1)=x % 256^i+256^i*(x/256^i % 256):=by rw[Nat.pow_succ,Nat.mod_mul]
theorem Neg.next {x i b:Nat}{o:List Nat}(h:Neg x i b o)(d b':Nat)(hd:d<256)(hb:b'≤1)(he:d+x/256^i % 256+b=bJ/256^i % 256+256*b'):Neg x (i+1) b' (o++[d]):=by
 refine⟨by simp[h.len],?_,hb,?_⟩
 ·intro y hy
  rcases List.mem_append.1 hy with h1|h1
  ·exact h.lt y h1
  ·rw[List.mem_singleton.1 h1];exact hd
 ·rw[sX,h.len,mod_succ,mod_succ,Nat.pow_succ];have hv:=h.val;generalize x/256^i % 256=u at he⊢
  generalize bJ/256^i % 256=q at he⊢
  generalize x % 256^i=r at hv⊢
  generalize bJ % 256^i=t at hv⊢
  generalize 256^i=A at hv⊢
  have e1:A*d+A*u+b*A=A*q+b'*(A*256):=by
   have:A*(d+u+b)=A*(q+256*b'):=by rw[he]
   rw[Nat.mul_add,Nat.mul_add,Nat.mul_add,Nat.mul_comm A b] at this;rw[this,Nat.mul_left_comm A 256 b',Nat.mul_comm b' (A*256),Nat.mul_comm A 256,Nat.mul_assoc]
  omega
theorem Neg.done {x b:Nat}{o:List Nat}(h:Neg x 32 b o)(hx:x≤bJ):bS o=bJ-x:=by
 have hv:=h.val;have dN:=zb o h.lt;rw[h.len] at dN;have hP:=zj;rw[Nat.mod_eq_of_lt (Nat.lt_of_le_of_lt hx hP),Nat.mod_eq_of_lt hP] at hv;have hb:=h.bl;have:b=0∨b=1:=by omega
 rcases this with rfl|rfl<;>omega
def rj (x:Nat):Nat:=x^ui % bJ
theorem Xn (x:Nat):rj x<bJ:=Nat.mod_lt _ qk
def fA (x y:Nat):Nat:=(x+y) % bJ
def fS (x y:Nat):Nat:=(x+(bJ-y)) % bJ
def fM (x y:Nat):Nat:=(x*y) % bJ
theorem OK (x y:Nat):fA x y<bJ:=Nat.mod_lt _ qk
theorem OL (x y:Nat):fS x y<bJ:=Nat.mod_lt _ qk
theorem iy (x y:Nat):fM x y<bJ:=Nat.mod_lt _ qk
def JF (x2 z2:Nat):Nat:=fM (fM (fA x2 z2) (fA x2 z2)) (fM (fS x2 z2) (fS x2 z2))
def nE (x2 z2:Nat):Nat:=fS (fM (fA x2 z2) (fA x2 z2)) (fM (fS x2 z2) (fS x2 z2))
def JG (x2 z2:Nat):Nat:=fM (nE x2 z2) (fA (fM (fA x2 z2) (fA x2 z2)) (fM 121665 (nE x2 z2)))
def nP (x2 z2 x3 z3:Nat):Nat:=fA (fM (fS x3 z3) (fA x2 z2)) (fM (fA x3 z3) (fS x2 z2))
def nM (x2 z2 x3 z3:Nat):Nat:=fS (fM (fS x3 z3) (fA x2 z2)) (fM (fA x3 z3) (fS x2 z2))
def G0 (x2 z2 x3 z3:Nat):Nat:=fM (nP x2 z2 x3 z3) (nP x2 z2 x3 z3)
def JH (u x2 z2 x3 z3:Nat):Nat:=fM u (fM (nM x2 z2 x3 z3) (nM x2 z2 x3 z3))
def Ap (u:Nat):List Bool→Nat→Nat→Nat→Nat→Nat×Nat
 |[],x2,z2,_,_=>(x2,z2)
 |true::l,x2,z2,x3,z3=>Ap u l (G0 x3 z3 x2 z2) (JH u x3 z3 x2 z2) (JF x3 z3) (JG x3 z3)
 |false::l,x2,z2,x3,z3=>Ap u l (JF x2 z2) (JG x2 z2) (G0 x2 z2 x3 z3) (JH u x2 z2 x3 z3)
def oQ (K:Nat):Nat→List Bool
 |0=>[]
 |i+1=>decide (K/2^i % 2=1)::oQ K i
def I3 (U:Nat)(n:Nat×Nat)(x2 z2 x3 z3:Nat):Prop:=Ap U (oQ n.1 n.2) x2 z2 x3 z3=Ap U (oQ n.1 255) 1 0 U 1
theorem I3.first (U K:Nat):I3 U (K,255) 1 0 U 1:=rfl
theorem I3.one {U K i x2 z2 x3 z3:Nat}(h:I3 U (K,i+1) x2 z2 x3 z3)(hb:K/2^i % 2=1):I3 U (K,i) (G0 x3 z3 x2 z2) (JH U x3 z3 x2 z2) (JF x3 z3) (JG x3 z3):=by have h2:Ap U (decide (K/2^i % 2=1)::oQ K i) x2 z2 x3 z3=Ap U (oQ K 255) 1 0 U 1:=h;rw[decide_eq_true hb] at h2;exact h2
theorem I3.zero {U K i x2 z2 x3 z3:Nat}(h:I3 U (K,i+1) x2 z2 x3 z3)(hb:K/2^i % 2=0):I3 U (K,i) (JF x2 z2) (JG x2 z2) (G0 x2 z2 x3 z3) (JH U x2 z2 x3 z3):=by have h2:Ap U (decide (K/2^i % 2=1)::oQ K i) x2 z2 x3 z3=Ap U (oQ K 255) 1 0 U 1:=h;rw[decide_eq_false (by omega)] at h2;exact h2
def mX (K U:Nat):Nat:=fM (Ap U (oQ K 255) 1 0 U 1).1 (rj (Ap U (oQ K 255) 1 0 U 1).2)
theorem I3.done {U K x2 z2 x3 z3:Nat}(h:I3 U (K,0) x2 z2 x3 z3):fM x2 (rj z2)=mX K U:=by have h2:(x2,z2)=Ap U (oQ K 255) 1 0 U 1:=h;unfold mX;rw[←h2]
def fC (n:Nat):Nat:=n % 2^254/8*8+2^254
theorem G5 (n i:Nat):(n/2^i % 2=1)↔n.testBit i=true:=by rw[Nat.testBit_eq_decide_div_mod_eq,decide_eq_true_iff]
theorem JI (n i:Nat):(fC n).testBit i=(decide (i=254)||(decide (3≤i)&&decide (i<254)&&n.testBit i)):=by
 have hl:n % 2^254/8*8<2^254:=by omega
 have e:fC n=2^254*1+n % 2^254/8*8:=by unfold fC;omega
 have e8:n % 2^254/8*8=(n % 2^254)>>>3<<<3:=by rw[Nat.shiftRight_eq_div_pow,Nat.shiftLeft_eq]
 rw[e,Nat.testBit_two_pow_mul_add 1 hl i]
 by_cases h:i<254
 ·rw[if_pos h,e8,Nat.testBit_shiftLeft,Nat.testBit_shiftRight,Nat.testBit_mod_two_pow]
  by_cases h3:3≤i
  ·simp[h,h3,show 3+(i-3)=i by omega,show i≠254 by omega]
  ·simp[h3,show i≠254 by omega]
 ·rw[if_neg h]
  by_cases h4:i=254
  ·subst h4;simp
  ·have h5:Nat.testBit 1 (i-254)=false:=by
    cases h6:Nat.testBit 1 (i-254) with
    |false=>rfl
    |true=>exact absurd (Nat.testBit_one_eq_true_iff_self_eq_zero.1 h6) (by omega)
   simp[h,h4,h5]
theorem Xo (l:aO)(q:Nat)(hq:q<l.length):fc l/256^q % 256=(at8 l q).toNat:=by
 have h:=ji (l.take q) (l.drop q);rw[List.take_append_drop] at h;have hl:(l.take q).length=q:=by simp;omega
 have ht:=jD (l.take q);rw[hl] at h ht;rw[h,Nat.add_mul_div_left _ _ (Nat.pow_pos (by decide)),Nat.div_eq_of_lt ht,Nat.zero_add,List.drop_eq_getElem_cons hq,fc,cP l q hq];have:=(l[q]).toNat_lt;omega
theorem OM (l:aO)(i:Nat)(hi:i/8<l.length):fc l/2^i % 2=(at8 l (i/8)).toNat/2^(i % 8) % 2:=by rw[←Xo l (i/8) hi,FO _ _ _ (Nat.mod_lt _ (by decide)),Nat.div_add_mod]
theorem afF (K U:Nat):mX K U<bJ:=iy _ _
def P' (l:aO):Nat:=fc l % 2^255 % bJ
theorem Qa (m:Nat)(h:m<bJ):P' (zA 32 m)=m:=by have h1:m<256^32:=Nat.lt_trans h (by decide);have h2:m<2^255:=Nat.lt_trans h (by decide);unfold P';rw[Cg,Nat.mod_eq_of_lt h1,Nat.mod_eq_of_lt h2,Nat.mod_eq_of_lt h]
def mK (k u:aO):Nat:=mX (fC (fc k)) (P' u)
theorem ZQ (k u:aO):mK k u<bJ:=afF _ _
theorem Xp (k:aO)(m:Nat)(h:m<bJ):mK k (zA 32 m)=mX (fC (fc k)) m:=by rw[mK,Qa m h]
def aZ:aO:=[78,111,105,115,101,95,73,75,95,50,53,53,49,57,95,67,104,97,67,104,97,80,111,108,121,95,66,76,65,75,69,50,115]
structure MS where
 C:aO
 H:aO
 K:aO
 has:Bool
 n:Nat
namespace MS
def start (name:aO):MS:=⟨dU name,dU name,cz 32 0,false,0⟩
def hash (m:MS)(b:aO):MS:=⟨m.C,zi m.H b,m.K,m.has,m.n⟩
def key (m:MS)(b:aO):MS:=⟨gH m.C b,m.H,nS m.C b,true,0⟩
def out (m:MS)(b:aO):aO:=oP m.K m.has m.n m.H b
def d9 (m:MS)(b:aO):MS:=⟨m.C,xF m.H m.K m.has m.n b,m.K,m.has,uh m.has m.n⟩
def text (m:MS)(b:aO):aO:=og m.K m.has m.n m.H b
def err (m:MS)(b:aO):Nat:=mZ m.K m.has m.n m.H b
def opened (m:MS)(b:aO):MS:=⟨m.C,wg m.H m.K m.has m.n b,m.K,m.has,ri m.K m.has m.n m.H b⟩
theorem sZ (m:MS)(b:aO)(h:m.n≠gf):m.text (m.out b)=b∧m.err (m.out b)=0∧m.opened (m.out b)=m.d9 b:=by
 obtain⟨o1,o2,o3⟩:=P8 m.K m.has m.n m.H b h;have hs:sw m.has m.n=0:=by simp[sw,h]
 refine⟨o1,o2,?_⟩;unfold opened d9 out;rw[o3,wg,if_pos o2,xF,if_pos hs]
theorem SX (m:MS)(b:aO):(m.key b).n≠gf:=by unfold key gf;simp
theorem JJ (m:MS)(b c:aO):((m.key b).d9 c).n=1:=by simp[key,d9,uh,gf]
end MS
def bN (k:aO):aO:=zA 32 (mX (fC (fc k)) 9)
def eH (k u:aO):aO:=zA 32 (mK k u)
theorem eI (k:aO):(bN k).length=32:=aaa _ _
theorem JK (k u:aO):(eH k u).length=32:=aaa _ _
structure DH (own other once one:aO):Prop where
 es:eH other (bN once)=eH once (bN other)
 ss:eH other (bN own)=eH own (bN other)
 ee:eH once (bN one)=eH one (bN once)
 se:eH own (bN one)=eH one (bN own)
 o1:mK once (bN other)≠0
 o2:mK own (bN other)≠0
 o3:mK other (bN once)≠0
 o4:mK other (bN own)≠0
 o5:mK one (bN once)≠0
 o6:mK one (bN own)≠0
 o7:mK once (bN one)≠0
 o8:mK own (bN one)≠0
structure NS where
 M:MS
 own:aO
 once:aO
 R:aO
 S:aO
 bP:Bool
 st:Nat
namespace NS
def jn (name gj own other once:aO):NS:=⟨((MS.start name).hash gj).hash other,own,once,[],other,true,0⟩
def answer (name gj own once:aO):NS:=⟨((MS.start name).hash gj).hash (bN own),own,once,[],cz 32 0,false,0⟩
def gI (x:NS):NS:=⟨x.M,x.own,x.once,x.R,x.S,x.bP,9⟩
abbrev ok (k u:aO):Prop:=mK k u≠0
def f1 (x:NS):MS:=(x.M.hash (bN x.once)).key (eH x.once x.S)
def f2 (x:NS):MS:=((f1 x).d9 (bN x.own)).key (eH x.own x.S)
def dV (x:NS)(b:aO):aO:=bN x.once++(f1 x).out (bN x.own)++(f2 x).out b
def dv (x:NS):Nat:=if x.bP=true∧x.st=0 then(if ok x.once x.S∧ok x.own x.S then 0 else 4) else 10
def first (x:NS)(b:aO):NS:=if dv x=0 then⟨(f2 x).d9 b,x.own,x.once,x.R,x.S,x.bP,1⟩ else x.gI
def hR (b:aO):aO:=b.take 32
def h1 (x:NS)(b:aO):MS:=(x.M.hash (hR b)).key (eH x.own (hR b))
def hB (b:aO):aO:=(b.drop 32).take 48
def hS (x:NS)(b:aO):aO:=(h1 x b).text (hB b)
def h2 (x:NS)(b:aO):MS:=((h1 x b).opened (hB b)).key (eH x.own (hS x b))
def dD (x:NS)(b:aO):Nat:=if x.bP=false∧x.st=0 then(if b.length<96 then 2 else if¬ok x.own (hR b) then 4 else if(h1 x b).err (hB b)≠0 then(h1 x b).err (hB b) else if¬ok x.own (hS x b) then 4 else(h2 x b).err (b.drop 80)) else 10
def jI (x:NS)(b:aO):aO:=(h2 x b).text (b.drop 80)
def mh (x:NS)(b:aO):NS:=if dD x b=0 then⟨(h2 x b).opened (b.drop 80),x.own,x.once,hR b,hS x b,x.bP,1⟩ else x.gI
def s1 (x:NS):MS:=((x.M.hash (bN x.once)).key (eH x.once x.R)).key (eH x.once x.S)
def dm (x:NS)(b:aO):aO:=bN x.once++(s1 x).out b
def dn (x:NS):Nat:=if x.bP=false∧x.st=1 then(if ok x.once x.R∧ok x.once x.S then 0 else 4) else 10
def second (x:NS)(b:aO):NS:=if dn x=0 then⟨(s1 x).d9 b,x.own,x.once,x.R,x.S,x.bP,2⟩ else x.gI
def d1 (x:NS)(b:aO):MS:=((x.M.hash (hR b)).key (eH x.once (hR b))).key (eH x.own (hR b))
def eJ (x:NS)(b:aO):Nat:=if x.bP=true∧x.st=1 then(if b.length<48 then 2 else if¬(ok x.once (hR b)∧ok x.own (hR b)) then 4 else(d1 x b).err (b.drop 32)) else 10
def jo (x:NS)(b:aO):aO:=(d1 x b).text (b.drop 32)
def done (x:NS)(b:aO):NS:=if eJ x b=0 then⟨(d1 x b).opened (b.drop 32),x.own,x.once,hR b,x.S,x.bP,2⟩ else x.gI
theorem CU (name gj own other once:aO)(h1:mK once (bN other)≠0)(h2:mK own (bN other)≠0):dv (jn name gj own (bN other) once)=0:=by unfold dv jn;rw[if_pos ⟨rfl,rfl⟩,if_pos ⟨h1,h2⟩]
theorem mz (m:MS)(b c:aO):((m.key b).out c).length=c.length+16:=by simp[MS.key,MS.out,oP,gf,nz]
theorem CV (name gj own other once one t:aO)(D:DH own other once one):
  let a:=jn name gj own (bN other) once
  let b:=answer name gj other one
  dD b (dV a t)=0∧jI b (dV a t)=t∧mh b (dV a t)=⟨(first a t).M,other,one,bN once,bN own,false,1⟩∧(dV a t).length=96+t.length:=by
 intro a b;have hM:b.M=a.M:=rfl;have p1:=eI once;have p2:((f1 a).out (bN own)).length=48:=by rw[f1,mz,eI]
 have p3:((f2 a).out t).length=t.length+16:=by rw[f2,mz]
 have hlen:(dV a t).length=96+t.length:=by show(bN once++(f1 a).out (bN own)++(f2 a).out t).length=_;rw[List.length_append,List.length_append,p1,p2,p3];omega
 have e1:hR (dV a t)=bN once:=by show(bN once++(f1 a).out (bN own)++(f2 a).out t).take 32=_;rw[List.append_assoc,List.take_left' p1]
 have e2:hB (dV a t)=(f1 a).out (bN own):=by show((bN once++(f1 a).out (bN own)++(f2 a).out t).drop 32).take 48=_;rw[List.append_assoc,List.drop_left' p1,List.take_left' p2]
 have e3:(dV a t).drop 80=(f2 a).out t:=by show(bN once++(f1 a).out (bN own)++(f2 a).out t).drop 80=_;rw[List.drop_left' (by rw[List.length_append,p1,p2])]
 have m1:h1 b (dV a t)=f1 a:=by unfold h1 f1;rw[e1,hM];show(a.M.hash (bN once)).key (eH other (bN once))=(a.M.hash (bN once)).key (eH once (bN other));rw[D.es]
 obtain⟨o1,o2,o3⟩:=MS.sZ (f1 a) (bN own) (MS.SX _ _);have s1:hS b (dV a t)=bN own:=by unfold hS;rw[m1,e2,o1]
 have m2:h2 b (dV a t)=f2 a:=by unfold h2 f2;rw[m1,e2,o3,s1];show((f1 a).d9 (bN own)).key (eH other (bN own))=((f1 a).d9 (bN own)).key (eH own (bN other));rw[D.ss]
 obtain⟨q1,q2,q3⟩:=MS.sZ (f2 a) t (MS.SX _ _);have he:dD b (dV a t)=0:=by unfold dD;rw[if_pos ⟨rfl,rfl⟩,if_neg (by omega),e1,m1,e2,m2,e3,s1,if_neg (by rw[Decidable.not_not];exact D.o3),if_neg (by rw[o2];simp),if_neg (by rw[Decidable.not_not];exact D.o4),q2]
 refine⟨he,?_,?_,hlen⟩
 ·unfold jI;rw[m2,e3,q1]
 ·unfold mh;rw[if_pos he,m2,e3,q3,e1,s1];have hf:dv a=0:=CU name gj own other once D.o1 D.o2;unfold first
  rw[if_pos hf];rfl
theorem JL (M:MS)(own other once one t:aO)(D:DH own other once one):
  let a:NS:=⟨M,own,once,[],bN other,true,1⟩
  let b:NS:=⟨M,other,one,bN once,bN own,false,1⟩
  dn b=0∧eJ a (dm b t)=0∧jo a (dm b t)=t∧(done a (dm b t)).M=(second b t).M∧(done a (dm b t)).st=2∧(second b t).st=2∧(dm b t).length=48+t.length:=by
 intro a b;have p1:=eI one;have p2:((s1 b).out t).length=t.length+16:=by rw[s1,mz]
 have hlen:(dm b t).length=48+t.length:=by show(bN one++(s1 b).out t).length=_;rw[List.length_append,p1,p2];omega
 have e1:hR (dm b t)=bN one:=by show(bN one++(s1 b).out t).take 32=_;rw[List.take_left' p1]
 have e2:(dm b t).drop 32=(s1 b).out t:=by show(bN one++(s1 b).out t).drop 32=_;rw[List.drop_left' p1]
 have m1:d1 a (dm b t)=s1 b:=by unfold d1 s1;rw[e1];show((M.hash (bN one)).key (eH once (bN one))).key (eH own (bN one))=((M.hash (bN one)).key (eH one (bN once))).key (eH one (bN own));rw[D.ee,D.se]
 obtain⟨q1,q2,q3⟩:=MS.sZ (s1 b) t (MS.SX _ _);have hs:dn b=0:=by unfold dn;rw[if_pos ⟨rfl,rfl⟩,if_pos ⟨D.o5,D.o6⟩]
 have hd:eJ a (dm b t)=0:=by unfold eJ;rw[if_pos ⟨rfl,rfl⟩,if_neg (by omega),e1,m1,e2,if_neg (by rw[Decidable.not_not];exact⟨D.o7,D.o8⟩),q2]
 refine⟨hs,hd,?_,?_,?_,?_,hlen⟩
 ·unfold jo;rw[m1,e2,q1]
 ·unfold done second;rw[if_pos hd,if_pos hs,m1,e2,q3]
 ·unfold done;rw[if_pos hd]
 ·unfold second;rw[if_pos hs]
end NS
end Go.Proofs.YtkdpblbhcfhagaaGreatDoor
