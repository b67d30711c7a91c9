import Derived.Test.YtkdpblbhcfhagaaGreatDoorQab
namespace Go.Proofs.YtkdpblbhcfhagaaGreatDoor
open Go.Proofs.Tryz
open _root_.Nat renaming le_refl → di, le_trans → kx, lt_of_lt_of_le → tV
open Go.RowKit.Below renaming refl → bZ, heap_alloc → jE
open Go.World renaming size_alloc → fx
open _root_.Array renaming getElem?_eq_some_iff → gD
open Go renaming undef → ag, World → aw, heap_alloc_new → eC
open _root_.List renaming replicate → cz, not_mem_nil → nj, mem_cons → mg, take_of_length_le → su
open Go.Exit renaming inBlock → nu
set_option maxHeartbeats 64000000
set_option linter.unusedVariables false
set_option maxRecDepth 100000
open Go.RowKit
def yN (bs:aO)(eo:Bool)(i:Nat):Nat:=if eo then fc (bs.take i).reverse else fc (bs.drop (bs.length-i))
def xJ (size:Nat)(eo:Bool)(i:Nat):Nat:=if eo then i else size-1-i
theorem Tx (bs:aO)(eo:Bool):yN bs eo 0=0:=by cases eo<;>simp[yN,fc]
theorem XN (bs:aO)(eo:Bool):yN bs eo bs.length=SE bs eo:=by cases eo<;>simp[yN,SE]
theorem abW (bs:aO)(eo:Bool)(i:Nat)(h:i≤bs.length):yN bs eo i<256^i:=by
 cases eo
 ·simp only[yN,Bool.false_eq_true,if_false];have hl:=jD (bs.drop (bs.length-i));rw[List.length_drop,show bs.length-(bs.length-i)=i by omega] at hl;exact hl
 ·simp only[yN,if_true];have hl:=jD (bs.take i).reverse
  rwa [List.length_reverse,List.length_take,Nat.min_eq_left h] at hl
theorem Ty (bs:aO)(eo:Bool)(i:Nat)(h:i<bs.length):yN bs eo (i+1)=yN bs eo i*256+(at8 bs (xJ bs.length eo i)).toNat:=by
 cases eo
 ·simp only[yN,xJ,Bool.false_eq_true,if_false];have hd:bs.drop (bs.length-(i+1))=bs[bs.length-1-i]::bs.drop (bs.length-i):=by rw[show bs.length-(i+1)=bs.length-1-i by omega,List.drop_eq_getElem_cons (by omega),show bs.length-1-i+1=bs.length-i by omega]
  rw[hd,fc,cP _ _ (by omega)];omega
 ·simp only[yN,xJ,if_true];rw[yY bs i h,cP _ _ h];omega
theorem Qo (bs:aO)(eo:Bool)(i:Nat)(h:i<bs.length)(h8:bs.length≤8):(yN bs eo i:Int)<72057594037927936:=by have h1:=abW bs eo i (by omega);have h2:(256:Nat)^i≤256^7:=Nat.pow_le_pow_right (by decide) (by omega);omega
theorem C7 (b off len cap:Nat)(at_ size:Nat)(eo:Bool)(l:aO)(w:aw)(hm:len≤maxLen)(ig:len≤cap)
  (hB:bj w (some ⟨b,off,none⟩) len l) (h1:1≤size) (h8:size≤8) (h:at_+size≤len):
  Calls prog 104 #[.slice (some ⟨b,off,none⟩) len cap,.int .i64 at_,.int .i64 size,.bool eo] w λe w'=>e= .returned (.tuple #[.int .u64 (sW l eo at_ size:Int),.bool true])∧w'=w:=by
 unfold maxLen at hm;obtain⟨hl,hB⟩:=hB;have g1:¬(size:Int)<1:=by omega
 have g2:¬(8:Int)<size:=by omega
 have g3:¬(at_:Int)<0:=by omega
 have g4:¬(len:Int)<at_:=by omega
 have g5:¬(len:Int)-at_<size:=by omega
 have jc:=vT l at_ size (by omega)
 go_enter func104,ntmps104
 go_wp2
 go_loop [10,11] (λn i=>∃k:Nat,k≤size∧i= .int .i64 k∧n= .int .u64 (yN (fQ l at_ size) eo k:Int)) (λ_ i=>size-(intOf i).toNat)
 case atStart=>exact⟨0,Nat.zero_le _,rfl,by rw[Tx];rfl⟩
 case round=>
  obtain⟨k,hk,rfl,rfl⟩:=hrel
  by_cases dN:k<size
  ·rcases hB with h0|⟨b',kf,e,hc⟩
   ·omega
   ·cases e
    have hb:=Qo (fQ l at_ size) eo k (by omega) (by omega);have HS:ae (yN (fQ l at_ size) eo (k+1)=yN (fQ l at_ size) eo k*256+(at8 l (at_+xJ size eo k)).toNat):=by
     have e:=Ty (fQ l at_ size) eo k (by omega);rw[jc] at e
     rwa [OD l at_ size _ (by unfold xJ;cases eo<;>simp<;>omega)] at e
    have cM:=SD l (at_+xJ size eo k);cases eo
    ·obtain⟨p,hp⟩:∃p:Nat,(size:Int)-1-(k:Int)=(p:Int):=⟨size-1-k,by omega⟩;have hpe:xJ size false k=p:=by simp[xJ];omega
     rw[hpe] at HS cM;have hck:=hc (at_+p) (by omega);have hi1:(at_:Int)+(p:Int)<(len:Int):=by omega
     go_wp2
     exact⟨⟨k+1,by omega,by go_num,by rw[HS.o];go_num⟩,by simp[intOf];omega⟩
    ·have hpe:xJ size true k=k:=by simp[xJ]
     rw[hpe] at HS cM;have hck:=hc (at_+k) (by omega);have hi1:(at_:Int)+(k:Int)<(len:Int):=by omega
     go_wp2
     exact⟨⟨k+1,by omega,by go_num,by rw[HS.o];go_num⟩,by simp[intOf];omega⟩
  ·have HE:ae (yN (fQ l at_ size) eo k=sW l eo at_ size):=by
    have e2:k=(fQ l at_ size).length:=by omega
    show _=_;rw[e2,XN];rfl
   go_wp2
   go_ret2
   exact⟨OI (by rw[HE.o]),rfl⟩
def vF (n k:Nat):Nat:=n/256^k
theorem Aw (n k:Nat):vF n (k+1)=vF n k/256:=by unfold vF;rw[Nat.pow_succ,Nat.div_div_eq_div_mul]
theorem Ha (n k:Nat)(h:n<18446744073709551616):(vF n k:Int)<18446744073709551616:=by have:vF n k≤n:=Nat.div_le_self _ _;omega
theorem FU (sz n:Nat)(eo:Bool)(k p:Nat)(h:k<sz)(hp:vU eo sz k=(p:Int)):(vF n p:Int) % 256=((at8 (im sz n eo) k).toNat:Int):=by
 rw[OE sz n eo k h,hp];have e:(8*(p:Int)).toNat=8*p:=by omega
 have e2:((n:Int)/2^(8*p))=((n/2^(8*p):Nat):Int):=by simp
 rw[e,e2,←sg];rfl
theorem ME (b off len cap:Nat)(at_ size:Nat)(eo:Bool)(l:aO)(w:aw)(hm:cap≤maxLen)(ig:len≤cap)
  (hB:bj w (some ⟨b,off,none⟩) len l) (h1:1≤size) (h8:size≤8) (h:at_+size≤len):
  Calls prog 104 #[.slice (some ⟨b,off,none⟩) len cap,.int .i64 at_,.int .i64 size,.bool eo] w λe w'=>e= .returned (.tuple #[.int .u64 (sW l eo at_ size:Int),.bool true])∧w'=w:=
 C7 b off len cap at_ size eo l w (kx ig hm) ig hB h1 h8 h
theorem oq (a:bW)(len cap:Nat)(size:Int)(n:Nat)(hn:n<18446744073709551616)(eo:Bool)(l:aO)(w:aw)(hm:len≤1000000)
  (hB:bj w a len l) (rk:a=none→cap=0) (sz:Nat) (jH:(sz:Int)=min (max size 0) 8):
  Calls prog 83 #[.slice a len cap,.int .i64 size,.int .u64 (n:Int),.bool eo] w λe w'=>∃a' cK,e= .returned (.slice a' (len+sz) cK)∧Below w.heap.size w w'∧dJ w' 5 a' (len+sz) cK ((l++im sz n eo).map bv)∧∀j,bL a'=some j→w.heap.size≤j:=by
 obtain⟨mx,e1⟩:=aW ((if size<0 then(0:Int) else size):Int);have e2:(if 8<mx then(8:Int) else mx)=(sz:Int):=by rw[jH,←e1];split<;>split<;>omega
 have jm:sz≤8:=by omega
 clear jH;obtain⟨a2,Fh,w2,jS,iJ,cM,Qn⟩:=aaz w a len cap l hB rk hm;have OX:ae (_):=jS;clear jS
 go_enter func83,ntmps83
 go_wp2_with (at_builtin;refine ao rfl (.tmp 14) (.tmp 15) 22 rfl _ _ _ _ rfl rfl OX.o ?_)
 go_loopw [9,10] (λv i wr=>∃(k:Nat) (a':bW) (cK:Nat),k≤sz∧i= .int .i64 k∧v= .slice a' (len+k) cK∧dJ wr 5 a' (len+k) cK (uY l sz n eo k)∧(∀j,bL a'=some j→w.heap.size≤j)∧Below w.heap.size w wr) (λ_ i _=>sz-(intOf i).toNat)
 case atStart=>exact⟨0,a2,Fh,Nat.zero_le _,rfl,rfl,by simpa[uY] using iJ,Qn,cM⟩
 case round=>
  obtain⟨k,a',cK,hk,rfl,rfl,vE,kW,fe⟩:=hrel
  by_cases dN:k<sz
  ·obtain⟨Xg,uX⟩:=x6 eo sz k (by omega) (by omega);obtain⟨p,hp⟩:∃p:Nat,vU eo sz k=(p:Int):=⟨(vU eo sz k).toNat,by omega⟩;have hp8:p<8:=by omega
   have Z5:=FU sz n eo k p dN hp;have hpb:(if eo=true then(sz:Int)-1-(k:Int) else(k:Int))=(p:Int):=by rw[←hp];rfl
   cases eo
   ·have hpk:p=k:=by simp[vU] at hp;omega
    clear hpb hp Xg uX;subst hpk
    go_wp2
    go_loop [12,13] (λx j=>∃q:Nat,q≤p∧j= .int .i64 q∧x= .int .u64 (vF n q:Int)) (λ_ j=>p-(intOf j).toNat)
    case atStart=>exact⟨0,Nat.zero_le _,rfl,by simp[vF]⟩
    case round=>
     obtain⟨q,hq,rfl,rfl⟩:=hrel;have hdv:=Ha n q hn
     by_cases hqp:q<p
     ·have HQ:ae ((vF n (q+1):Int)=(vF n q:Int)/256):=by show _=_;rw[Aw];simp
      go_wp2
      exact⟨⟨q+1,by omega,by go_num,by rw[HQ.o]⟩,by simp[intOf];omega⟩
     ·have hqe:p=q:=by omega
      subst hqe;obtain⟨i0,hi,uf,pH,uZ⟩:=info_parts Tryz.infoU8;obtain⟨a3,J',w3,iu,ur,Ka,Kb,Qp⟩:=oh (P:=prog) 22 22 5 i0 (.int .u8 0) 1 underlying22 hi uf pH uZ rfl wr a' (len+p) cK _ vE (.int .u8 ((at8 (im sz n false) p).toNat:Int)) rfl (by unfold maxLen;omega) (by omega);have py:ae (_):=iu;have vP:ae (dJ w3 5 a3 (len+(p+1)) J' (uY l sz n false (p+1))):=by rw[x7 l sz n false p dN];exact ur
      have Ax:ae (∀j,bL a3=some j→w.heap.size≤j):=by
       intro j hj
       rcases Kb with e|e
       ·exact kW j (by rw[←e];exact hj)
       ·have:=e j hj;have:=fe.size;omega
      have eZ:Below w.heap.size w w3:=fe.grown Ka fe.size kW;clear iu ur Ka Kb
      go_wp2_with (at_builtin;refine ao rfl (.tmp 39) (.tmp 43) 22 rfl _ _ _ _ rfl rfl py.o ?_)
      exact⟨⟨p+1,a3,J',by omega,by go_num,rfl,vP.o,Ax.o,eZ⟩,by simp[intOf];omega⟩
   ·have arF:(sz:Int)-1-(k:Int)=(p:Int):=hp;clear hpb hp Xg uX
    go_wp2
    go_loop [12,13] (λx j=>∃q:Nat,q≤p∧j= .int .i64 q∧x= .int .u64 (vF n q:Int)) (λ_ j=>p-(intOf j).toNat)
    case atStart=>exact⟨0,Nat.zero_le _,rfl,by simp[vF]⟩
    case round=>
     obtain⟨q,hq,rfl,rfl⟩:=hrel;have hdv:=Ha n q hn
     by_cases hqp:q<p
     ·have HQ:ae ((vF n (q+1):Int)=(vF n q:Int)/256):=by show _=_;rw[Aw];simp
      go_wp2
      exact⟨⟨q+1,by omega,by go_num,by rw[HQ.o]⟩,by simp[intOf];omega⟩
     ·have hqe:p=q:=by omega
      subst hqe;obtain⟨i0,hi,uf,pH,uZ⟩:=info_parts Tryz.infoU8;obtain⟨a3,J',w3,iu,ur,Ka,Kb,Qp⟩:=oh (P:=prog) 22 22 5 i0 (.int .u8 0) 1 underlying22 hi uf pH uZ rfl wr a' (len+k) cK _ vE (.int .u8 ((at8 (im sz n true) k).toNat:Int)) rfl (by unfold maxLen;omega) (by omega);have py:ae (_):=iu;have vP:ae (dJ w3 5 a3 (len+(k+1)) J' (uY l sz n true (k+1))):=by rw[x7 l sz n true k dN];exact ur
      have Ax:ae (∀j,bL a3=some j→w.heap.size≤j):=by
       intro j hj
       rcases Kb with e|e
       ·exact kW j (by rw[←e];exact hj)
       ·have:=e j hj;have:=fe.size;omega
      have eZ:Below w.heap.size w w3:=fe.grown Ka fe.size kW;clear iu ur Ka Kb
      go_wp2_with (at_builtin;refine ao rfl (.tmp 39) (.tmp 43) 22 rfl _ _ _ _ rfl rfl py.o ?_)
      exact⟨⟨k+1,a3,J',by omega,by go_num,rfl,vP.o,Ax.o,eZ⟩,by simp[intOf];omega⟩
  ·have ek:k=sz:=by omega
   subst ek
   go_wp2
   go_ret
   refine⟨a',cK,rfl,fe,?_,kW⟩;have hf:=vE;unfold uY at hf
   rwa [su (by rw[eU];exact di _)] at hf
def wv (x:BitVec 32):Value:=.int .u64 (x.toNat:Int)
theorem MF (x:Int)(w:aw)(h0:0≤x)(h1:x<18446744073709551616):
  Calls prog 168 #[.int .u64 x] w λe w'=>e= .returned (.int .u64 (x % 4294967296))∧w'=w:=by
 go_enter func168,ntmps168
 go_wp2
 go_ret
 exact⟨rfl,rfl⟩
theorem Kc (x:BitVec 32)(n:Int)(w:aw):
  Calls prog 169 #[.int .u64 (x.toNat:Int),.int .i64 n] w λe w'=>e= .returned (.int .u64 ((rotl x n).toNat:Int))∧w'=w:=by
 have hx:=x.isLt
 go_enter func169,ntmps169
 go_wp2_with (go_at_call 144;refine(C5 x n _).mono ?_;rintro e w' ⟨rfl,rfl⟩)
 go_ret
 exact⟨rfl,rfl⟩
theorem dJ.word {w:aw}{g off n cap:Nat}{l:List (BitVec 32)}(h:dJ w 40 (some ⟨g,off,none⟩) n cap (l.map wv))(i:Nat)(hi:i<n):
  w.cell? ⟨g,off+i,none⟩=some (.int .u64 ((bG l i).toNat:Int))∧w.frozen? ⟨g,off+i,none⟩=false:=by
 have hl:=h.1;rw[List.length_map] at hl;obtain⟨g',kf,e,hc,hf⟩:=h.cell i hi;cases e
 refine⟨?_,hf⟩;rw[hc,List.getElem?_map,List.getElem?_eq_getElem (by omega),oM l i (by omega)];rfl
theorem Hb (x y:BitVec 32):((x.toNat:Int)+(y.toNat:Int)) % 4294967296=((x+y).toNat:Int):=by rw[BitVec.toNat_add];omega
theorem iQ (y z:BitVec 32):bits .xor .u64 (y.toNat:Int) (z.toNat:Int)=((y^^^z).toNat:Int):=by rw[u64_xor_nat _ _ (by have:=y.isLt;omega) (by have:=z.isLt;omega),BitVec.toNat_xor]
theorem rM (g off cap n:Nat)(l:List (BitVec 32))(a b d:Nat)(s:Int)(w:aw)(hS:dJ w 40 (some ⟨g,off,none⟩) n cap (l.map wv))(ha:a<n)(hb:b<n)(hd:d<n)(LM:a≠d):
  Calls prog 162 #[.slice (some ⟨g,off,none⟩) n cap,.int .i64 a,.int .i64 b,.int .i64 d,.int .i64 s] w λe w'=>(∃v,e= .returned v)∧dJ w' 40 (some ⟨g,off,none⟩) n cap ((uV l a b d s).map wv)∧w.grownBy w' (some g):=by
 have hl:l.length=n:=by have:=hS.1;simpa using this
 obtain⟨ca,fa⟩:=hS.word a ha;obtain⟨cb,fb⟩:=hS.word b hb;obtain⟨x,hx⟩:=aW (bG l a+bG l b);have HX:ae (((bG l a).toNat:Int)+((bG l b).toNat:Int)<18446744073709551616):=by have:=(bG l a).isLt;have:=(bG l b).isLt;show _<_;omega
 have HU:ae (IntKind.u64.wrap (((bG l a).toNat:Int)+((bG l b).toNat:Int))=((bG l a).toNat:Int)+((bG l b).toNat:Int)):=by have:=HX.o;show _=_;rw[IntKind.wrap_u64];omega
 have HV:ae ((((bG l a).toNat:Int)+((bG l b).toNat:Int)) % 4294967296=(x.toNat:Int)):=by show _=_;rw[Hb,hx]
 have gg:ae (dJ (w.drew.setCell ⟨g,off+a,none⟩ (wv x)) 40 (some ⟨g,off,none⟩) n cap ((l.set a x).map wv)):=by rw[List.map_set];exact hS.drew.set a ha _
 obtain⟨W0,gK⟩:=aW (w.drew);rw[gK] at gg;obtain⟨W,hW⟩:=aW (W0.setCell ⟨g,off+a,none⟩ (wv x));rw[hW] at gg;have ca0:W0.cell? ⟨g,off+a,none⟩=some (.int .u64 ((bG l a).toNat:Int)):=by rw[←gK];exact ca
 have cb0:W0.cell? ⟨g,off+b,none⟩=some (.int .u64 ((bG l b).toNat:Int)):=by rw[←gK];exact cb
 have fa0:W0.frozen? ⟨g,off+a,none⟩=false:=by rw[←gK];exact fa
 obtain⟨cd,fd⟩:=gg.o.word d hd;obtain⟨ca2,fa2⟩:=gg.o.word a ha;rw[xy _ _ _ (by omega)] at ca2;rw[gy _ _ _ _ LM] at cd;obtain⟨W1,fg⟩:=aW (W.drew);obtain⟨y,hy⟩:=aW (bG l d^^^x);have HY:ae (bits .xor .u64 ((bG l d).toNat:Int) (x.toNat:Int)=(y.toNat:Int)):=by show _=_;rw[iQ,hy]
 obtain⟨W2,fV⟩:=aW (W1.setCell ⟨g,off+d,none⟩ (wv (rotl y s)));have fw:ae (W1.setCell ⟨g,off+d,none⟩ (.int .u64 ((rotl y s).toNat:Int))=W2):=fV;have cd1:W1.cell? ⟨g,off+d,none⟩=some (.int .u64 ((bG l d).toNat:Int)):=by rw[←fg];exact cd
 have ca1:W1.cell? ⟨g,off+a,none⟩=some (.int .u64 (x.toNat:Int)):=by rw[←fg];exact ca2
 have fd1:W1.frozen? ⟨g,off+d,none⟩=false:=by rw[←fg];exact fd
 have oE:ae (dJ W2 40 (some ⟨g,off,none⟩) n cap ((uV l a b d s).map wv)):=by have h1:=(gg.o.drew).set d hd (wv (rotl y s));rw[fg,fV] at h1;rw[uV,hx,hy,List.map_set];exact h1
 have HG:ae (w.grownBy W2 (some g)):=by
  have k1:W.os=w.os∧W.tape=w.tape∧W.output=w.output∧w.heap.size≤W.heap.size:=by rw[←hW,←gK];exact⟨rfl,rfl,rfl,by simp⟩
  have k2:W2.os=W.os∧W2.tape=W.tape∧W2.output=W.output∧W.heap.size≤W2.heap.size:=by rw[←fV,←fg];exact⟨rfl,rfl,rfl,by simp⟩
  refine⟨k2.1.trans k1.1,k2.2.1.trans k1.2.1,k2.2.2.1.trans k1.2.2.1,kx k1.2.2.2 k2.2.2.2,λj hj eL=>?_⟩;have hjg:j≠g:=λe=>eL (by rw[e]);rw[←fV,heap_setCell_other W1 ⟨g,off+d,none⟩ j _ hjg,←fg];show W.heap[j]?=_;rw[←hW,heap_setCell_other W0 ⟨g,off+a,none⟩ j _ hjg,←gK];rfl
 have fU:ae (W.drew=W1):=fg;have HW:ae (W0.setCell ⟨g,off+a,none⟩ (.int .u64 (x.toNat:Int))=W):=hW;have pX:ae (w.drew=W0):=gK;have hs:ae (dJ w 40 (some ⟨g,off,none⟩) n cap (l.map wv)):=hS;have i1:(a:Int)<(n:Int):=by omega
 have i2:(b:Int)<(n:Int):=by omega
 have i3:(d:Int)<(n:Int):=by omega
 clear hS hW hx gK ca cb fa fb fg fV hy cd ca2 fd fa2
 go_enter func162,ntmps162
 go_wp2
 refine ah (G:=bX) (by kernel_rfl) bX.refl bX.trans (by kernel_rfl) [(0,true),(1,true),(2,true),(3,true),(4,true),(5,true),(6,true),(7,true),(8,true),(9,true),(10,true),(11,false),(12,true),(13,false)] rfl (by kernel_rfl) ?_;intro KK cA;rw[pX.o]
 iterate 11 (refine aa rfl (by rfl) (v:=?_) ?_ ?_;rotate_left;(rintro w' rfl;go_simp;with_reducible rfl);go_simp)
 refine aU (f:=168) (args:=#[.int .u64 (((bG l a).toNat:Int)+((bG l b).toNat:Int))]) rfl (by rfl) (by go_simp;rw[HU.o]) ?_;refine(MF _ _ (by omega) HX.o).mono ?_;rintro e w' ⟨rfl,rfl⟩;refine⟨_,rfl,rfl,?_⟩;rw[HV.o];go_simp
 iterate 1 (refine aa rfl (by rfl) (v:=?_) ?_ ?_;rotate_left;(rintro w' rfl;go_simp;with_reducible rfl);go_simp)
 refine bp rfl (by rfl) (w':=W) (by rw[←HW.o];go_simp) (by kernel_rfl) ?_;go_simp
 refine az cA ?_
 go_wp2
 refine ah (G:=bX) (by kernel_rfl) bX.refl bX.trans (by kernel_rfl) [(0,true),(1,true),(2,true),(3,true),(4,true),(5,true),(6,true),(7,true),(8,true),(9,true),(10,true),(11,true),(12,false),(13,true),(14,false)] rfl (by kernel_rfl) ?_;intro KK2 ye;rw[fU.o]
 iterate 12 (refine aa rfl (by rfl) (v:=?_) ?_ ?_;rotate_left;(rintro w' rfl;go_simp;with_reducible rfl);go_simp)
 refine aU (f:=169) (args:=#[.int .u64 (y.toNat:Int),.int .i64 s]) rfl (by rfl) (by go_simp;rw[HY.o]) ?_;refine(Kc y s _).mono ?_;rintro e w' ⟨rfl,rfl⟩;refine⟨_,rfl,rfl,?_⟩;go_simp
 iterate 1 (refine aa rfl (by rfl) (v:=?_) ?_ ?_;rotate_left;(rintro w' rfl;go_simp;with_reducible rfl);go_simp)
 refine bp rfl (by rfl) (w':=W2) (by rw[←fw.o];go_simp) (by kernel_rfl) ?_;go_simp
 refine az ye ?_
 go_wp2
 go_end0
 exact⟨⟨_,rfl⟩,oE.o,HG.o⟩
theorem jY (g off cap n:Nat)(l:List (BitVec 32))(a b c d:Nat)(w:aw)(hS:dJ w 40 (some ⟨g,off,none⟩) n cap (l.map wv))(ha:a<n)(hb:b<n)(hc:c<n)(hd:d<n)(LM:a≠d)(rf:c≠b):
  Calls prog 151 #[.slice (some ⟨g,off,none⟩) n cap,.int .i64 a,.int .i64 b,.int .i64 c,.int .i64 d] w λe w'=>(∃v,e= .returned v)∧dJ w' 40 (some ⟨g,off,none⟩) n cap ((qtr l a b c d).map wv)∧w.grownBy w' (some g):=by
 have HS:ae (dJ w 40 (some ⟨g,off,none⟩) n cap (l.map wv)):=hS;clear hS
 go_enter func151,ntmps151
 go_wp2_with fail
 refine(rM g off cap n l a b d 16 _ HS.o ha hb hd LM).mono ?_;rintro e w1 ⟨⟨v,rfl⟩,h1,g1⟩;have gg:ae _:=h1;have G1:ae (w.grownBy w1 (some g)):=g1;clear h1 g1
 go_wp2_with fail
 refine(rM g off cap n _ c d b 12 _ gg.o hc hd hb rf).mono ?_;rintro e w2 ⟨⟨v,rfl⟩,h2,g2⟩;have oE:ae _:=h2;have G2:ae (w1.grownBy w2 (some g)):=g2;clear h2 g2
 go_wp2_with fail
 refine(rM g off cap n _ a b d 8 _ oE.o ha hb hd LM).mono ?_;rintro e w3 ⟨⟨v,rfl⟩,h3,g3⟩;have vP:ae _:=h3;have G3:ae (w2.grownBy w3 (some g)):=g3;clear h3 g3
 go_wp2_with fail
 refine(rM g off cap n _ c d b 7 _ vP.o hc hd hb rf).mono ?_;rintro e w4 ⟨⟨v,rfl⟩,h4,g4⟩;have vQ:ae _:=h4;have G4:ae (w3.grownBy w4 (some g)):=g4;clear h4 g4
 go_wp2
 go_end0
 exact⟨⟨_,rfl⟩,vQ.o,((G1.out.trans G2.out).trans G3.out).trans G4.out⟩
theorem Tryz.infoU64:(prog.info? 40).map (λi=>(i.zero,i.size,i.bytes))=some (some (.int .u64 0),1,8):=by kernel_rfl
theorem zt (b off m cap:Nat)(l:aO)(w:aw)(hc:4*m≤cap)(hm:cap≤9223372036854775807)(hmm:m≤1000)(hB:bj w (some ⟨b,off,none⟩) (4*m) l):
  Calls prog 150 #[.slice (some ⟨b,off,none⟩) (4*m:Nat) cap] w λe w'=>∃a' cK,e= .returned (.slice a' m cK)∧Below w.heap.size w w'∧dJ w' 40 a' m cK ((eN l m).map wv)∧∀j,bL a'=some j→w.heap.size≤j:=by
 obtain⟨L,hL⟩:=aW (4*m);rw[hL] at hB hc⊢
 go_enter func150,ntmps150
 go_wp2
 go_loopw [3,4] (λv i wr=>∃(k:Nat) (a':bW) (cK:Nat),k≤m∧i= .int .i64 ((4*k:Nat):Int)∧v= .slice a' k cK∧dJ wr 40 a' k cK ((eN l k).map wv)∧(∀j,bL a'=some j→w.heap.size≤j)∧Below w.heap.size w wr) (λ_ i _=>4*m-(intOf i).toNat)
 case atStart=>
  exact⟨0,some ⟨w.heap.size,0,none⟩,0,Nat.zero_le _,rfl,rfl,⟨rfl,.inr ⟨w.heap.size,0,#[],rfl,eC w _,by simp,di _,λi hi=>by omega⟩⟩,by intro j hj;simp[bL] at hj;omega,(bZ _ _).alloc (di _) _⟩
 case round=>
  obtain⟨k,a',cK,hk,rfl,rfl,vE,kW,fe⟩:=hrel
  by_cases dN:k<m
  ·obtain⟨p,hp⟩:=aW (4*k);have rN:bj wr (some ⟨b,off,none⟩) L l:=by
    refine⟨hB.1,?_⟩
    rcases hB.2 with h0|⟨b',kf,e,MG⟩
    ·exact .inl h0
    ·refine .inr ⟨b',kf,e,λi hi=>?_⟩;have:=MG i hi;rw[fe.cell (p:=⟨b',kf+i,none⟩) (World.block_lt_of_cell? w _ this)];exact this
   have sO:ae (bj wr (some ⟨b,off,none⟩) L l):=rN;have ij:ae ((sW l false p 4:Int)=((kL l k).toNat:Int)):=by show _=_;rw[tX,hp]
   rw[hp];have i1:(p:Int)+4≤(L:Int):=by omega
   obtain⟨i0,hi,uf,pH,uZ⟩:=info_parts Tryz.infoU64;obtain⟨a3,J',w3,iu,ur,Ka,Kb,Qp⟩:=oh (P:=prog) 115 115 40 i0 (.int .u64 0) 8 underlying115 hi uf pH uZ rfl wr a' k cK _ vE (.int .u64 ((kL l k).toNat:Int)) rfl (by unfold maxLen;omega) (by omega);have py:ae (_):=iu;have vP:ae (dJ w3 40 a3 (k+1) J' ((eN l (k+1)).map wv)):=by rw[tY,List.map_append];exact ur
   have Ax:ae (∀j,bL a3=some j→w.heap.size≤j):=by
    intro j hj
    rcases Kb with e|e
    ·exact kW j (by rw[←e];exact hj)
    ·have:=e j hj;have:=fe.size;omega
   have eZ:Below w.heap.size w w3:=fe.grown Ka fe.size kW;clear iu ur Ka Kb rN
   go_wp2_with fail
   refine(ME b off L cap p 4 false l wr (by unfold maxLen;omega) hc sO.o (by omega) (by omega) (by omega)).mono ?_;rintro e w' ⟨rfl,rfl⟩;rw[ij.o]
   go_wp2_with (at_builtin;refine ao rfl (.tmp 21) (.tmp 23) 115 rfl _ _ _ _ rfl rfl py.o ?_)
   exact⟨⟨k+1,a3,J',by omega,by go_num,rfl,vP.o,Ax.o,eZ⟩,by simp[intOf];omega⟩
  ·have ek:k=m:=by omega
   subst ek;have i1:¬((4*k:Nat):Int)+4≤(L:Int):=by omega
   go_wp2
   go_ret
   exact⟨a',cK,rfl,fe,vE,kW⟩
theorem MI (l:List (BitVec 32)):∀u∈l.map wv,u.oneCell'=true:=by intro u hu;simp only[List.mem_map] at hu;obtain⟨c,_,rfl⟩:=hu;rfl
theorem gU (w:aw)(base:Nat)(v:Value)(n:Nat)(xs:List (BitVec 32))(ff:w.ownsRow base 40 1 v n (xs.map wv))(x:Addr)(m c:Nat)(ys:List (BitVec 32))(hs:dJ w 40 (some x) m c (ys.map wv))(hb:base≤w.heap.size)(xH:n+m≤1000):
  ∃v' w',(Builtin.append_ #[115,115] 115 #[v,.slice (some x) m c]).run prog w= .ok v' w'∧w'.ownsRow base 40 1 v' (n+m) ((xs++ys).map wv)∧w.grownBy w' v.ownBlock:=by
 obtain⟨i0,hi,uf,pH,uZ⟩:=info_parts Tryz.infoU64;have hl:=hs.1;obtain⟨v',w',hr,ho,hg,_⟩:=run_append_own (P:=prog) w base 115 115 40 i0 (.int .u64 0) 1 8 underlying115 hi uf pH uZ rfl (by decide) v n _ ff x m c (ys.map wv) (by omega) hs.abi (MI ys) (by unfold maxLen;omega) (by omega) hb;exact⟨v',w',hr,by rw[List.map_append];exact ho,hg⟩
structure FV (w:aw)(g h cg ch:Nat)(l l0:List (BitVec 32))(wr:aw):Prop where
 now:dJ wr 40 (some ⟨g,0,none⟩) 16 cg (l.map wv)
 was:dJ wr 40 (some ⟨h,0,none⟩) 16 ch (l0.map wv)
 ne:h≠g
 bg:w.heap.size≤g
 aY:Below w.heap.size w wr
theorem FV.next {w wr w':aw}{g h cg ch:Nat}{l l' l0:List (BitVec 32)}(c:FV w g h cg ch l l0 wr)(hs:dJ w' 40 (some ⟨g,0,none⟩) 16 cg (l'.map wv))(hg:wr.grownBy w' (some g)):FV w g h cg ch l' l0 w':=
 ⟨hs,c.was.kept λj hj=>by
   have e:j=h:=by simp[bL] at hj;exact hj.symm
   subst e;exact hg.block j (c.was.lt j rfl) (λe=>c.ne (by cases e;rfl)),
  c.ne,c.bg,c.aY.grown hg c.aY.size (λk e=>by cases e;exact c.bg)⟩
theorem FV.grow {w wr w':aw}{g h cg ch:Nat}{l l0:List (BitVec 32)}(c:FV w g h cg ch l l0 wr)(hb:Below wr.heap.size wr w'):FV w g h cg ch l l0 w':=
 ⟨c.now.kept λj hj=>hb.block j (c.now.lt j hj),c.was.kept λj hj=>hb.block j (c.was.lt j hj),c.ne,c.bg,c.aY.trans (hb.mono c.aY.size)⟩
theorem zu (kb eh nb mj kc nc:Nat)(key aq:aO)(xB:BitVec 32)(w:aw)(C8:32≤kc)(uj:12≤nc)(Hc:kc≤9223372036854775807)(Qq:nc≤9223372036854775807)
  (hK:bj w (some ⟨kb,eh,none⟩) 32 key) (hN:bj w (some ⟨nb,mj,none⟩) 12 aq):
  Calls prog 139 #[.slice (some ⟨kb,eh,none⟩) 32 kc,.int .u32 (xB.toNat:Int),.slice (some ⟨nb,mj,none⟩) 12 nc] w λe w'=>∃a' cK,e= .returned (.slice a' 64 cK)∧Below w.heap.size w w'∧bj w' a' 64 (Fb key xB aq)∧64≤cK:=by
 have I7:=hK.lt (by omega);have hnb:=hN.lt (by omega);obtain⟨W0,gK⟩:=aW (w.alloc (.cells #[.int .u64 1634760805,.int .u64 857760878,.int .u64 2036477234,.int .u64 1797285236] 40));have tj:W0.ownsRow w.heap.size 40 1 (.slice (some ⟨w.heap.size,0,none⟩) 4 4) 4 (xe.map wv):=by rw[←gK];exact World.ownsRow_lit w _ 4 (di _) (by unfold maxLen;omega) rfl
 have ab0:Below w.heap.size w W0:=by rw[←gK];exact(bZ _ _).alloc (di _) _
 have Z6:ae (bj W0 (some ⟨kb,eh,none⟩) 32 key):=hK.below I7 ab0;have yO:ae (W0.ownsRow w.heap.size 40 1 (.slice (some ⟨w.heap.size,0,none⟩) 4 4) 4 (xe.map wv)):=tj;have HN:ae (bj w (some ⟨nb,mj,none⟩) 12 aq):=hN;have EW:ae (Below w.heap.size w W0):=ab0;have pX:ae (w.alloc (.cells #[.int .u64 1634760805,.int .u64 857760878,.int .u64 2036477234,.int .u64 1797285236] 40)=W0):=gK;clear hK hN tj ab0 gK
 go_enter func139,ntmps139
 go_wp2_with fail
 rw[pX.o];refine(zt kb eh 8 kc key _ C8 Hc (by omega) Z6.o).mono ?_;rintro e w1 ⟨a1,c1,rfl,ck,jF,ak5⟩;obtain⟨g1,agl,rfl,_,_⟩:=jF.cell 0 (by omega);have MJ:Below w.heap.size w w1:=EW.o.trans (ck.mono EW.o.size);have cH:=yO.o.kept (cG ck) (.inr (by simp[Value.ownBlock]));obtain⟨v2,w2,nD,cZ,kj⟩:=gU w1 w.heap.size _ 4 _ cH ⟨g1,agl,none⟩ 8 c1 _ jF MJ.size (by omega);have vG:Below w.heap.size w w2:=MJ.grown kj MJ.size (λk hk=>(cH.lt k hk).1);have iJ:dJ (w2.alloc (.cells #[.int .u64 (xB.toNat:Int)] 40)) 40 (some ⟨w2.heap.size,0,none⟩) 1 1 ([xB].map wv):=
  ⟨rfl,.inr ⟨w2.heap.size,0,#[.int .u64 (xB.toNat:Int)],rfl,eC w2 _,by simp,di _,λi hi=>by(have:i=0:=by omega);subst this;rfl⟩⟩
 obtain⟨v3,w3,iu,dt,uu⟩:=gU (w2.alloc (.cells #[.int .u64 (xB.toNat:Int)] 40)) w.heap.size _ 12 _ (cZ.alloc _) ⟨w2.heap.size,0,none⟩ 1 1 [xB] iJ (by have:=vG.size;simp;omega) (by omega);have vH:Below w.heap.size w w3:=(vG.alloc vG.size _).grown uu (by have:=vG.size;simp;omega) (λk hk=>(cZ.lt k hk).1);have gM:ae ((Builtin.append_ #[115,115] 115 #[.slice (some ⟨w.heap.size,0,none⟩) 4 4,.slice (some ⟨g1,agl,none⟩) 8 c1]).run prog w1= .ok v2 w2):=nD;have py:ae ((Builtin.append_ #[115,115] 115 #[v2,.slice (some ⟨w2.heap.size,0,none⟩) 1 1]).run prog (w2.alloc (.cells #[.int .u64 (xB.toNat:Int)] 40))= .ok v3 w3):=iu;have rO:ae (w3.ownsRow w.heap.size 40 1 v3 13 ((xe++eN key 8++[xB]).map wv)):=dt;have Ax:ae (Below w.heap.size w w3):=vH;clear jF ck ak5 MJ cH nD cZ kj vG iJ iu dt uu vH Z6 yO EW pX
 go_wp2_with (at_builtin;first|refine ao rfl (.tmp 15) (.tmp 17) 115 rfl _ _ _ _ rfl rfl gM.o ?_|refine ao rfl (.tmp 19) (.tmp 22) 115 rfl _ _ _ _ rfl rfl py.o ?_)
 refine(zt nb mj 3 nc aq _ uj Qq (by omega) (HN.o.below hnb Ax.o)).mono ?_;rintro e w4 ⟨a4,c4,rfl,js,J0,ak6⟩;obtain⟨g4,agm,rfl,_,_⟩:=J0.cell 0 (by omega);have zv:Below w.heap.size w w4:=Ax.o.trans (js.mono Ax.o.size);have iw:=rO.o.kept (cG js) (by
  rcases h:v3.ownBlock with _|j
  ·exact .inl rfl
  ·exact .inr (by simp))
 obtain⟨v5,w5,wj,nF,hg5⟩:=gU w4 w.heap.size _ 13 _ iw ⟨g4,agm,none⟩ 3 c4 _ J0 zv.size (by omega);have Tz:Below w.heap.size w w5:=zv.grown hg5 zv.size (λk hk=>(iw.lt k hk).1);obtain⟨g,cg,rfl,pW,XO⟩:=gO nF (by omega);have aoB:g<w5.heap.size:=XO.lt g rfl;have qo:(w5.alloc (.cells #[] 40)).ownsRow w5.heap.size 40 1 (.slice (some ⟨w5.heap.size,0,none⟩) 0 0) 0 (([]:List (BitVec 32)).map wv):=World.ownsRow_made w5 #[] 0 (di _) (Nat.zero_le _) rfl;have XP:dJ (w5.alloc (.cells #[] 40)) 40 (some ⟨g,0,none⟩) 16 cg ((xe++eN key 8++[xB]++eN aq 3).map wv):=XO.kept λj hj=>jE w5 _ j (XO.lt j hj);obtain⟨v7,w7,zw,nT,He⟩:=gU (w5.alloc (.cells #[] 40)) w5.heap.size _ 0 [] qo ⟨g,0,none⟩ 16 cg _ XP (by simp) (by omega);obtain⟨h,ch,rfl,hbh,agn⟩:=gO nT (by omega);have MM:(w5.alloc (.cells #[] 40)).grownBy w7 (some w5.heap.size):=He;have yh:ae (FV w g h cg ch (pG key xB aq) (pG key xB aq) w7):=by
  refine⟨?_,agn,by omega,pW,?_⟩
  ·exact XP.kept λj hj=>MM.block j (XP.lt j hj) (by
    intro e;have e1:j=g:=by simp[bL] at hj;exact hj.symm
    cases e
    omega)
  ·exact(Tz.alloc Tz.size _).grown MM (by have:=Tz.size;simp;omega) (λk hk=>by cases hk;exact Tz.size)
 have OY:ae ((Builtin.append_ #[115,115] 115 #[v3,.slice (some ⟨g4,agm,none⟩) 3 c4]).run prog w4= .ok (.slice (some ⟨g,0,none⟩) 16 cg) w5):=wj;have I8:ae ((Builtin.append_ #[115,115] 115 #[.slice (some ⟨w5.heap.size,0,none⟩) 0 0,.slice (some ⟨g,0,none⟩) 16 cg]).run prog (w5.alloc (.cells #[] 40))= .ok (.slice (some ⟨h,0,none⟩) 16 ch) w7):=zw;clear js J0 ak6 zv iw wj nF hg5 Tz pW XO qo XP zw nT He MM agn hbh rO Ax gM py HN
 go_wp2_with (at_builtin;first|refine ao rfl (.tmp 24) (.tmp 26) 115 rfl _ _ _ _ rfl rfl OY.o ?_|refine ao rfl (.tmp 28) (.tmp 29) 115 rfl _ _ _ _ rfl rfl I8.o ?_)
 clear OY I8;obtain⟨l0,xK⟩:=aW (pG key xB aq);rw[xK] at yh;have zx:ae (pG key xB aq=l0):=xK;have Z7:l0.length=16:=by rw[←xK];exact tZ key xB aq
 clear xK
 go_loopw [9] (λi wr=>∃k:Nat,k≤10∧i= .int .i64 k∧ae (FV w g h cg ch (turned k l0) l0 wr)) (λi _=>10-(intOf i).toNat)
 case atStart=>exact⟨0,by omega,rfl,yh⟩
 case round=>
  obtain⟨k,hk,rfl,hC⟩:=hrel
  by_cases dN:k<10
  ·have G':(k:Int)<10:=by omega
   go_wp2
   go_loopw [10] (λi wr=>∃j:Nat,j≤4∧i= .int .i64 j∧ae (FV w g h cg ch (pk j (turned k l0)) l0 wr)) (λi _=>4-(intOf i).toNat)
   case atStart=>exact⟨0,by omega,rfl,hC⟩
   case round=>
    clear hC;obtain⟨j,hj,rfl,hD⟩:=hrel
    by_cases PW:j<4
    ·obtain⟨p1,uX⟩:∃p,4+j=p:=⟨_,rfl⟩;obtain⟨p2,yM⟩:∃p,8+j=p:=⟨_,rfl⟩;obtain⟨p3,Bh⟩:∃p,12+j=p:=⟨_,rfl⟩;have e1:(4:Int)+(j:Int)=(p1:Int):=by omega
     have e2:(8:Int)+(j:Int)=(p2:Int):=by omega
     have e3:(12:Int)+(j:Int)=(p3:Int):=by omega
     have ZW:(j:Int)<4:=by omega
     go_wp2_with fail
     refine(jY g 0 cg 16 _ j p1 p2 p3 _ hD.out.now (by omega) (by omega) (by omega) (by omega) (by omega) (by omega)).mono ?_;rintro e w8 ⟨⟨v,rfl⟩,jm,ql⟩;have Sf:ae (FV w g h cg ch (pk (j+1) (turned k l0)) l0 w8):=by rw[pk,uX,yM,Bh];exact hD.out.next jm ql
     clear jm ql
     go_wp2
     exact⟨⟨j+1,by omega,by go_num,Sf⟩,by simp[intOf];omega⟩
    ·have ej:j=4:=by omega
     have hjr:¬(j:Int)<4:=by omega
     have zB:ae (FV w g h cg ch (pk 4 (turned k l0)) l0 wr):=by rw[←ej];exact hD.out
     clear hD
     go_wp2
     go_loopw [11] (λi wr=>∃j:Nat,j≤4∧i= .int .i64 j∧ae (FV w g h cg ch (kz j (pk 4 (turned k l0))) l0 wr)) (λi _=>4-(intOf i).toNat)
     case atStart=>exact⟨0,by omega,rfl,zB⟩
     case round=>
      clear zB;obtain⟨q,hq,rfl,hE⟩:=hrel
      by_cases ZX:q<4
      ·obtain rfl|rfl|rfl|rfl:q=0∨q=1∨q=2∨q=3:=by omega
       ·go_wp2_with fail
        refine(jY g 0 cg 16 _ 0 5 10 15 _ hE.out.now (by omega) (by omega) (by omega) (by omega) (by omega) (by omega)).mono ?_;rintro e w8 ⟨⟨v,rfl⟩,jm,ql⟩;have I5:ae (FV w g h cg ch (kz 1 (pk 4 (turned k l0))) l0 w8):=hE.out.next jm ql;clear jm ql
        go_wp2
        go_roundw
        case rel=>exact⟨1,by omega,rfl,I5⟩
        case measure=>simp[intOf]
       ·go_wp2_with fail
        refine(jY g 0 cg 16 _ 1 6 11 12 _ hE.out.now (by omega) (by omega) (by omega) (by omega) (by omega) (by omega)).mono ?_;rintro e w8 ⟨⟨v,rfl⟩,jm,ql⟩;have I5:ae (FV w g h cg ch (kz 2 (pk 4 (turned k l0))) l0 w8):=hE.out.next jm ql;clear jm ql
        go_wp2
        go_roundw
        case rel=>exact⟨2,by omega,rfl,I5⟩
        case measure=>simp[intOf]
       ·go_wp2_with fail
        refine(jY g 0 cg 16 _ 2 7 8 13 _ hE.out.now (by omega) (by omega) (by omega) (by omega) (by omega) (by omega)).mono ?_;rintro e w8 ⟨⟨v,rfl⟩,jm,ql⟩;have I5:ae (FV w g h cg ch (kz 3 (pk 4 (turned k l0))) l0 w8):=hE.out.next jm ql;clear jm ql
        go_wp2
        go_roundw
        case rel=>exact⟨3,by omega,rfl,I5⟩
        case measure=>simp[intOf]
       ·go_wp2_with fail
        refine(jY g 0 cg 16 _ 3 4 9 14 _ hE.out.now (by omega) (by omega) (by omega) (by omega) (by omega) (by omega)).mono ?_;rintro e w8 ⟨⟨v,rfl⟩,jm,ql⟩;have I5:ae (FV w g h cg ch (kz 4 (pk 4 (turned k l0))) l0 w8):=hE.out.next jm ql;clear jm ql
        go_wp2
        go_roundw
        case rel=>exact⟨4,by omega,rfl,I5⟩
        case measure=>simp[intOf]
      ·have eq:q=4:=by omega
       subst eq
       go_wp2
       exact⟨⟨k+1,by omega,by go_num,hE⟩,by simp[intOf];omega⟩
  ·have ek:k=10:=by omega
   have G':¬(k:Int)<10:=by omega
   have hC:ae (FV w g h cg ch (turned 10 l0) l0 wr):=by rw[←ek];exact hC.out
   clear ek dN hk
   go_wp2
   go_loopw [12,13] (λv i wr=>∃(k:Nat) (a':bW) (cK:Nat),k≤16∧i= .int .i64 k∧v= .slice a' (4*k) cK∧4*k≤cK∧(a'=none→cK=0)∧ae (bj wr a' (4*k) (rD key xB aq k))∧ae (FV w g h cg ch (turned 10 l0) l0 wr)) (λ_ i _=>16-(intOf i).toNat)
   case atStart=>
    refine⟨0,some ⟨_,0,none⟩,0,by omega,rfl,rfl,(by omega),(by intro e;cases e),⟨rfl,.inl rfl⟩,?_⟩;exact hC.out.grow eF
   case round=>
    clear hC;clear G';obtain⟨k,a',cK,hk,rfl,rfl,C8,rk,hBt,hC⟩:=hrel
    by_cases dN:k<16
    ·obtain⟨x,hx⟩:=aW (bG (turned 10 l0) k);obtain⟨y,hy⟩:=aW (bG l0 k);have i1:(k:Int)<16:=by omega
     obtain⟨n,hn⟩:=aW (x.toNat+y.toNat);have arN:n<8589934592:=by have:=x.isLt;have:=y.isLt;omega
     have HU:ae (IntKind.u64.wrap ((x.toNat:Int)+(y.toNat:Int))=(n:Int)):=by show _=_;rw[IntKind.wrap_u64];omega
     have HE:ae (rD key xB aq (k+1)=rD key xB aq k++im 4 n false):=by show _=_;rw[rD,yZ,zx.o,hx,hy,←SJ,hn];rfl
     obtain⟨W,hW⟩:=aW (wr.drew);have cL:Below wr.heap.size wr W:=by rw[←hW];exact gl
     have Qr:ae (FV w g h cg ch (turned 10 l0) l0 W):=hC.out.grow cL;have gx:ae (bj W a' (4*k) (rD key xB aq k)):=hBt.out.later cL;have HW:ae (wr.drew=W):=hW;have oR:∀w',bM W w'→w'.cell? ⟨g,k,none⟩=some (.int .u64 (x.toNat:Int)):=λw' hw'=>by
      have:=((Qr.o.grow hw').now.word k dN).1
      rwa [Nat.zero_add,hx] at this
     have om:∀w',bM W w'→w'.cell? ⟨h,k,none⟩=some (.int .u64 (y.toNat:Int)):=λw' hw'=>by
      have:=((Qr.o.grow hw').was.word k dN).1
      rwa [Nat.zero_add,hy] at this
     clear hC hBt cL hW hx hy
     go_wp2
     refine ah (G:=bM) (by kernel_rfl) bM.refl bM.trans (by kernel_rfl) [(0,true),(1,true),(2,true),(3,true),(4,true),(5,true),(6,true),(7,true),(8,true),(9,true),(10,false),(11,true)] rfl (by kernel_rfl) ?_;intro KK cA;rw[HW.o]
     iterate 10 (refine aa rfl (by rfl) (v:=?_) ?_ ?_;rotate_left;(intro w' hw';have q1:=oR w' hw';have q2:=om w' hw';go_simp;with_reducible rfl);go_simp)
     refine aU (f:=83) (args:=#[.slice a' (4*k) cK,.int .i64 4,.int .u64 (n:Int),.bool false]) rfl (by rfl) (by go_simp;rw[HU.o]) ?_;refine(oq a' (4*k) cK 4 n (by omega) false _ _ (by omega) gx.o rk 4 (by decide)).mono ?_;rintro e w8 ⟨a8,c8,rfl,i9,jm,_⟩;have Bi:=bj.gS jm;have ak8:4*(k+1)≤c8:=by rcases jm.2 with⟨_,h0,_⟩|⟨_,_,_,_,_,_,h0,_⟩<;>omega
     clear jm;refine⟨_,rfl,i9,?_⟩;have HB8:ae (bj w8 a8 (4*(k+1)) (rD key xB aq (k+1))):=by rw[HE.o];exact Bi
     have HC8:ae (FV w g h cg ch (turned 10 l0) l0 w8):=Qr.o.grow i9;have Kd:a8=none→c8=0:=by
      intro e
      rcases HB8.o.2 with h0|⟨b',kf,e',_⟩
      ·omega
      ·rw[e] at e';cases e'
     clear Bi i9 oR om;go_simp
     iterate 1 (refine aa rfl (by rfl) (v:=?_) ?_ ?_;rotate_left;(intro w' hw';go_simp;with_reducible rfl);go_simp)
     refine az cA ?_
     go_wp2
     exact⟨⟨k+1,a8,c8,by omega,by go_num,rfl,ak8,Kd,HB8,HC8⟩,by simp[intOf];omega⟩
    ·have ek:k=16:=by omega
     subst ek
     go_wp2
     go_ret
     exact⟨a',cK,rfl,hC.out.aY,hBt.out,C8⟩
theorem Hf (kb eh nb mj kc nc:Nat)(key aq:aO)(xB:BitVec 32)(w:aw)(C8:32≤kc)(uj:12≤nc)(Hc:kc≤9223372036854775807)(Qq:nc≤9223372036854775807)
  (hK:bj w (some ⟨kb,eh,none⟩) 32 key) (hN:bj w (some ⟨nb,mj,none⟩) 12 aq):
  Calls prog 139 #[.slice (some ⟨kb,eh,none⟩) 32 kc,.int .u32 (xB.toNat:Int),.slice (some ⟨nb,mj,none⟩) 12 nc] w λe w'=>∃a' cK,e= .returned (.slice a' 64 cK)∧Below w.heap.size w w'∧bj w' a' 64 (Fb key xB aq):=
 (zu kb eh nb mj kc nc key aq xB w C8 uj Hc Qq hK hN).mono λe w' h=>by obtain⟨a',cK,rfl,hb,hB,_⟩:=h;exact⟨a',cK,rfl,hb,hB⟩
theorem XQ (xB:BitVec 32)(k n:Nat)(h:64*k=n):((xB.toNat:Int)+(n:Int)/64) % 4294967296=((xB+BitVec.ofNat 32 k).toNat:Int):=by rw[BitVec.toNat_add,BitVec.toNat_ofNat];omega
theorem xL (kb eh nb mj kc nc:Nat)(key aq:aO)(xB:BitVec 32)(a:bW)(len cap:Nat)(l:aO)(w:aw)(C8:32≤kc)(uj:12≤nc)(Hc:kc≤9223372036854775807)(Qq:nc≤9223372036854775807)
  (hK:bj w (some ⟨kb,eh,none⟩) 32 key) (hN:bj w (some ⟨nb,mj,none⟩) 12 aq) (hB:bj w a len l) (FW:len≤2000) (ig:len≤cap) (m7:cap≤maxLen):
  Calls prog 119 #[.slice (some ⟨kb,eh,none⟩) 32 kc,.int .u32 (xB.toNat:Int),.slice (some ⟨nb,mj,none⟩) 12 nc,.slice a len cap] w λe w'=>∃v,e= .returned v∧Below w.heap.size w w'∧w'.ownsRow w.heap.size 5 1 v len ((vW key xB aq l).map bv):=by
 have I7:=hK.lt (by omega);have hnb:=hN.lt (by omega);have hl:=hB.1;have m7:cap≤9223372036854775807:=by unfold maxLen at m7;exact m7
 have HK:ae (bj w (some ⟨kb,eh,none⟩) 32 key):=hK;have HN:ae (bj w (some ⟨nb,mj,none⟩) 12 aq):=hN;have HB:ae (bj w a len l):=hB;clear hK hN hB
 go_enter func119,ntmps119
 go_wp2
 go_loopw [9,10] (λv i wr=>∃k n:Nat,n=min (64*k) len∧64*k≤len+63∧i= .int .i64 ((64*k:Nat):Int)∧ae (wr.ownsRow w.heap.size 5 1 v n ((vW key xB aq (l.take n)).map bv))∧ae (Below w.heap.size w wr)) (λ_ i _=>3000-(intOf i).toNat)
 case atStart=>
  refine⟨0,0,by omega,by omega,rfl,?_,(bZ _ _).alloc (di _) _⟩;exact World.ownsRow_made w #[] 0 (di _) (Nat.zero_le _) rfl
 case round=>
  obtain⟨k,n,hn,hk,rfl,hO,hW⟩:=hrel;obtain⟨p,hp⟩:=aW (64*k);rw[hp] at hn hk⊢
  by_cases dN:p<len
  ·have en:n=p:=by omega
   subst en;clear hn;have i1:(n:Int)<(len:Int):=by omega
   have HCt:ae (((xB.toNat:Int)+(n:Int)/64) % 4294967296=((xB+BitVec.ofNat 32 k).toNat:Int)):=XQ xB k n hp;obtain⟨q,hq⟩:∃q,q=min (n+64) len:=⟨_,rfl⟩;have Af:n<q:=by omega
   have Ag:q≤len:=by omega
   have hq3:q-n≤64:=by omega
   have ago:(if(len:Int)<(n:Int)+64 then(len:Int) else(n:Int)+64)=(q:Int):=by split<;>omega
   have HST:ae (vW key xB aq (l.take q)=vW key xB aq (l.take n)++kU ((l.drop n).take (q-n)) (Fb key (xB+BitVec.ofNat 32 k) aq)):=by have e:=Jt key xB aq l k (by omega);rw[hp,hl,←hq,show min 64 (len-n)=q-n by omega,OG key (xB+BitVec.ofNat 32 k) aq ((l.drop n).take (q-n)) (by simp;omega)] at e;exact e
   have HQ:ae (q=min (64*(k+1)) len):=by show _=_;omega
   clear hq;obtain⟨ba,fz,rfl⟩:∃ba fz,a=some ⟨ba,fz,none⟩:=by
    rcases HB.o.2 with h0|⟨b',kf,e,_⟩
    ·omega
    ·exact⟨b',kf,e⟩
   have JD:=HB.o.lt (by omega);have i2:(n:Int)≤(q:Int):=by omega
   have i3:(q:Int)≤(cap:Int):=by omega
   go_wp2_with fail
   rw[HCt.o];refine(Hf kb eh nb mj kc nc key aq (xB+BitVec.ofNat 32 k) _ C8 uj Hc Qq (HK.o.below I7 hW.out) (HN.o.below hnb hW.out)).mono ?_;rintro e w1 ⟨a1,c1,rfl,ck,pz⟩;have iG:ae (bj w1 a1 64 (Fb key (xB+BitVec.ofNat 32 k) aq)):=pz;have fg:ae (Below w.heap.size w w1):=hW.out.trans (ck.mono hW.out.size);clear pz
   go_wp2_with fail
   refine(MD (some ⟨ba,fz+n,none⟩) a1 (q-n) (cap-n) 64 c1 _ _ _ ((HB.o.below JD fg.out).sub (by omega) Ag) iG.o (by omega) (by omega)).mono ?_;rintro e w2 ⟨a2,c2,rfl,cM,rN⟩;rw[Nat.min_eq_left hq3] at rN;obtain⟨b2,o2,rfl⟩:∃b2 o2,a2=some ⟨b2,o2,none⟩:=by
    rcases rN.2 with h0|⟨b',kf,e,_⟩
    ·omega
    ·exact⟨b',kf,e⟩
   have fV:ae (Below w.heap.size w w2):=fg.out.trans (cM.mono fg.out.size);have TA:=(hO.out.kept (cG ck) (by
    rcases h:Value.ownBlock u9 with _|j
    ·exact .inl rfl
    ·exact .inr (by simp))).kept (cG cM) (by
    rcases h:Value.ownBlock u9 with _|j
    ·exact .inl rfl
    ·exact .inr (by simp))
   obtain⟨v3,w3,iu,dt,uu⟩:=cI w2 w.heap.size _ n _ TA ⟨b2,o2,none⟩ (q-n) c2 _ rN fV.out.size (by omega);rw[←HST.o,show n+(q-n)=q by omega] at dt;have rO:ae (w3.ownsRow w.heap.size 5 1 v3 q ((vW key xB aq (l.take q)).map bv)):=dt;have nV:ae (Below w.heap.size w w3):=fV.out.grown uu fV.out.size (λj hj=>(TA.lt j hj).1);have py:ae (_):=iu;clear iu dt uu TA rN cM ck;rw[Nat.min_eq_left hq3]
   go_wp2_with (at_builtin;refine ao rfl (.tmp 27) (.tmp 37) 22 rfl _ _ _ _ rfl rfl py.o ?_)
   exact⟨⟨k+1,q,HQ.o,by omega,by go_num,rO,nV⟩,by simp[intOf];omega⟩
  ·have en:n=len:=by omega
   subst en;clear hn;have i1:¬(p:Int)<(n:Int):=by omega
   have HF:ae (l.take n=l):=su (by omega);rw[HF.o] at hO
   go_wp2
   go_ret
   exact⟨_,rfl,hW.out,hO.out⟩
end Go.Proofs.YtkdpblbhcfhagaaGreatDoor
