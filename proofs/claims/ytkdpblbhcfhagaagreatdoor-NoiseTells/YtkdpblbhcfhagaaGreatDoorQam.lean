import Derived.Test.YtkdpblbhcfhagaaGreatDoorQaj
namespace Go.Proofs.YtkdpblbhcfhagaaGreatDoor
open Go.Proofs.Tryz
open _root_.Nat renaming le_refl → di, le_trans → kx, lt_of_lt_of_le → tV
open Go.RowKit.Below renaming refl → bZ, heap_alloc → jE
open Go.World renaming size_alloc → fx
open _root_.Array renaming getElem?_eq_some_iff → gD
open Go renaming undef → ag, World → aw, heap_alloc_new → eC
open _root_.List renaming replicate → cz, not_mem_nil → nj, mem_cons → mg, take_of_length_le → su
open Go.Exit renaming inBlock → nu
set_option maxHeartbeats 64000000
set_option linter.unusedVariables false
set_option maxRecDepth 100000
open Go.RowKit
def fy:List Nat→Nat
 |[]=>0
 |c::r=>c+2251799813685248*fy r
theorem nH:bJ=57896044618658097711785492504343953926634992332820282019728792003956564819949:=rfl
def jy (l:List Nat)(n:Nat):Nat→List Nat×Nat
 |0=>(l,n)
 |k+1=>((jy l n k).1.set k ((cf (jy l n k).1 k+(jy l n k).2) % 2251799813685248),(cf (jy l n k).1 k+(jy l n k).2)/2251799813685248)
theorem mV (l:List Nat)(n:Nat):∀k,(jy l n k).1.length=l.length
 |0=>rfl
 |k+1=>by rw[jy,List.length_set,mV l n k]
theorem Ie (l:List Nat)(n:Nat):∀k j,k≤j→cf (jy l n k).1 j=cf l j
 |0,j,_=>rfl
 |k+1,j,h=>by rw[jy,fN _ _ _ _ (by omega),Ie l n k j (by omega)]
theorem Gr (l:List Nat)(n:Nat)(h:∀x∈l,x<9223372036854775808)(hn:n<4611686018427387904):∀k,(jy l n k).2<4611686018427387904
 |0=>hn
 |k+1=>by
  have h1:=Gr l n h hn k;have h2:cf (jy l n k).1 k<9223372036854775808:=by rw[Ie l n k k (di _)];exact dC l _ (by omega) h k
  rw[jy];simp only;omega
theorem tA (a b c d e n:Nat):∃o0 o1 o2 o3 o4:Nat,o0=(a+n)/2251799813685248∧o1=(b+o0)/2251799813685248∧o2=(c+o1)/2251799813685248∧o3=(d+o2)/2251799813685248∧o4=(e+o3)/2251799813685248∧
  jy [a,b,c,d,e] n 5=([(a+n) % 2251799813685248,(b+o0) % 2251799813685248,(c+o1) % 2251799813685248,(d+o2) % 2251799813685248,(e+o3) % 2251799813685248],o4):=by
 refine⟨_,_,_,_,_,rfl,rfl,rfl,rfl,rfl,?_⟩;simp[jy,cf]
def tB (l:List Nat):Prop:=∃a b c d e,l=[a,b,c,d,e]∧a<2251799813685286∧b<2251799813685248∧c<2251799813685248∧d<2251799813685248∧e<2251799813685248
theorem tB.len {l:List Nat}(h:tB l):l.length=5:=by obtain⟨a,b,c,d,e,rfl,_⟩:=h;rfl
theorem tB.lt {l:List Nat}(h:tB l):∀x∈l,x<2251799813685286:=by obtain⟨a,b,c,d,e,rfl,h0,h1,h2,h3,h4⟩:=h;simp;omega
theorem tB.small {l:List Nat}(h:tB l):∀x∈l,x<9223372036854775808:=λx hx=>Nat.lt_trans (h.lt x hx) (by decide)
def lV (l:List Nat):List Nat:=(jy l 0 5).1.set 0 (cf (jy l 0 5).1 0+19*(jy l 0 5).2)
theorem mW (l:List Nat):(lV l).length=l.length:=by rw[lV,List.length_set,mV]
theorem zQ (l:List Nat)(h:l.length=5):fy (lV l) % bJ=fy l % bJ:=by
 obtain⟨a,b,c,d,e,rfl⟩:=wu l h;obtain⟨o0,o1,o2,o3,o4,h0,h1,h2,h3,h4,he⟩:=tA a b c d e 0;have e1:fy (lV [a,b,c,d,e])+bJ*o4=fy [a,b,c,d,e]:=by rw[lV,he];simp only[List.set_cons_zero,cf,fy,nH,List.getD_cons_zero];omega
 rw[←e1,Nat.add_mul_mod_self_left]
theorem Ec (a b c d e:Nat)(ha:a<9223372036854775808)(hb:b<6755399441055742)(hc:c<6755399441055742)(hd:d<6755399441055742)(he:e<6755399441055742)
  (h:a<6755399441055744∨(b<2251799813685248∧c<2251799813685248∧d<2251799813685248∧e<2251799813685248)):tB (lV [a,b,c,d,e]):=by
 obtain⟨o0,o1,o2,o3,o4,h0,h1,h2,h3,h4,hp⟩:=tA a b c d e 0;have h4':o4≤2:=by omega
 refine⟨(a+0) % 2251799813685248+19*o4,_,_,_,_,by rw[lV,hp];rfl,?_,Nat.mod_lt _ (by decide),Nat.mod_lt _ (by decide),Nat.mod_lt _ (by decide),Nat.mod_lt _ (by decide)⟩;have:=Nat.mod_lt (a+0) (show 0<2251799813685248 by decide);omega
theorem Pt (l:List Nat)(h:tB l):∀x∈lV l,x<2251799813685248:=by
 obtain⟨a,b,c,d,e,rfl,ha,hb,hc,hd,he⟩:=h;obtain⟨o0,o1,o2,o3,o4,h0,h1,h2,h3,h4,hp⟩:=tA a b c d e 0;have hr:lV [a,b,c,d,e]=[(a+0) % 2251799813685248+19*o4,(b+o0) % 2251799813685248,(c+o1) % 2251799813685248,(d+o2) % 2251799813685248,(e+o3) % 2251799813685248]:=by rw[lV,hp];rfl
 rw[hr];have q0:o0≤1:=by omega
 have q1:o1≤1:=by omega
 have q2:o2≤1:=by omega
 have q3:o3≤1:=by omega
 have q4:o4≤1:=by omega
 have m0:(a+0) % 2251799813685248+19*o4<2251799813685248:=by omega
 simp;omega
def Ed (l:List Nat):List Nat:=if 0<(jy (lV l) 19 5).2 then(jy (lV l) 19 5).1 else lV l
theorem UZ (l:List Nat)(h:tB l):fy (Ed l)=fy l % bJ∧(Ed l).length=5∧∀x∈Ed l,x<2251799813685248:=by
 have hl:(lV l).length=5:=by rw[mW,h.len]
 have hi:=Pt l h;rw[←zQ l h.len];unfold Ed;obtain⟨a,b,c,d,e,hm⟩:=wu (lV l) hl;rw[hm] at hi⊢;simp at hi;obtain⟨ia,ib,ic,id_,ie⟩:=hi;obtain⟨o0,o1,o2,o3,o4,h0,h1,h2,h3,h4,hp⟩:=tA a b c d e 19;rw[hp]
 by_cases ho:0<o4
 ·rw[if_pos ho];refine⟨?_,rfl,by simp;omega⟩;have q4:o4=1:=by omega
  have e1:fy [a,b,c,d,e]=fy [(a+19) % 2251799813685248,(b+o0) % 2251799813685248,(c+o1) % 2251799813685248,(d+o2) % 2251799813685248,(e+o3) % 2251799813685248]+bJ:=by simp only[fy,nH];omega
  have e2:fy [(a+19) % 2251799813685248,(b+o0) % 2251799813685248,(c+o1) % 2251799813685248,(d+o2) % 2251799813685248,(e+o3) % 2251799813685248]<bJ:=by
   have:fy [a,b,c,d,e]<bJ+bJ:=by simp only[fy,nH];omega
   omega
  rw[e1,Nat.add_mod_right,Nat.mod_eq_of_lt e2]
 ·rw[if_neg ho];refine⟨?_,rfl,by simp;omega⟩;rw[Nat.mod_eq_of_lt];simp only[fy,nH];omega
def L9:List Nat:=[4503599627370458,4503599627370494,4503599627370494,4503599627370494,4503599627370494]
def od (a b:List Nat):Nat→List Nat
 |0=>a
 |k+1=>(od a b k).set k (cf (od a b k) k+(cf L9 k-cf b k))
theorem pT (a b:List Nat):∀k,(od a b k).length=a.length
 |0=>rfl
 |k+1=>by rw[od,List.length_set,pT a b k]
theorem La (a b:List Nat):∀k j,k≤j→cf (od a b k) j=cf a j
 |0,j,_=>rfl
 |k+1,j,h=>by rw[od,fN _ _ _ _ (by omega),La a b k j (by omega)]
theorem yz (a b c d e a' b' c' d' e':Nat):od [a,b,c,d,e] [a',b',c',d',e'] 5=[a+(4503599627370458-a'),b+(4503599627370494-b'),c+(4503599627370494-c'),d+(4503599627370494-d'),e+(4503599627370494-e')]:=by simp[od,cf,L9]
theorem ac0 (k:Nat):cf L9 k<4503599627370496:=dC L9 _ (by decide) (by decide) k
theorem ac1 (l:List Nat)(h:tB l)(k:Nat)(hk:k<5):cf l k≤cf L9 k:=by
 obtain⟨a,b,c,d,e,rfl,ha,hb,hc,hd,he⟩:=h;have:k=0∨k=1∨k=2∨k=3∨k=4:=by omega
 rcases this with rfl|rfl|rfl|rfl|rfl<;>simp[cf,L9]<;>omega
theorem YN (l m:List Nat)(hl:tB l)(hm:tB m):tB (lV (od l m 5)):=by obtain⟨a,b,c,d,e,rfl,ha,hb,hc,hd,he⟩:=hl;obtain⟨a',b',c',d',e',rfl,ha',cU,MG,hd',he'⟩:=hm;rw[yz];exact Ec _ _ _ _ _ (by omega) (by omega) (by omega) (by omega) (by omega) (.inl (by omega))
theorem YO (l m:List Nat)(hl:tB l)(hm:tB m):fy (od l m 5) % bJ=(fy l % bJ+(bJ-fy m % bJ)) % bJ:=by
 obtain⟨a,b,c,d,e,rfl,ha,hb,hc,hd,he⟩:=hl;obtain⟨a',b',c',d',e',rfl,ha',cU,MG,hd',he'⟩:=hm;rw[yz];have e1:fy [a+(4503599627370458-a'),b+(4503599627370494-b'),c+(4503599627370494-c'),d+(4503599627370494-d'),e+(4503599627370494-e')]+fy [a',b',c',d',e']=fy [a,b,c,d,e]+bJ+bJ:=by simp only[fy,nH];omega
 generalize fy [a+(4503599627370458-a'),b+(4503599627370494-b'),c+(4503599627370494-c'),d+(4503599627370494-d'),e+(4503599627370494-e')]=V at e1⊢
 generalize fy [a,b,c,d,e]=X at e1⊢
 generalize fy [a',b',c',d',e']=Y at e1⊢
 rw[nH] at e1⊢;omega
theorem YP (l m:List Nat)(hl:tB l)(hm:tB m):tB (lV (iR l m 5)):=by obtain⟨a,b,c,d,e,rfl,ha,hb,hc,hd,he⟩:=hl;obtain⟨a',b',c',d',e',rfl,ha',cU,MG,hd',he'⟩:=hm;show tB (lV [a+a',b+b',c+c',d+d',e+e']);exact Ec _ _ _ _ _ (by omega) (by omega) (by omega) (by omega) (by omega) (.inl (by omega))
theorem YQ (l m:List Nat)(hl:tB l)(hm:tB m):fy (iR l m 5) % bJ=(fy l % bJ+fy m % bJ) % bJ:=by
 obtain⟨a,b,c,d,e,rfl,ha,hb,hc,hd,he⟩:=hl;obtain⟨a',b',c',d',e',rfl,ha',cU,MG,hd',he'⟩:=hm;have e1:fy (iR [a,b,c,d,e] [a',b',c',d',e'] 5)=fy [a,b,c,d,e]+fy [a',b',c',d',e']:=by show fy [a+a',b+b',c+c',d+d',e+e']=_;simp only[fy];omega
 rw[e1,Nat.add_mod]
def prT (x y:List Nat)(k i:Nat):Nat:=if k<i then 19*cf x i*cf y (k+5-i) else cf x i*cf y (k-i)
def ov (x y:List Nat)(k c:Nat):Nat→Nat
 |0=>c
 |i+1=>ov x y k c i+prT x y k i
def qz (x y:List Nat):Nat→List Nat×Nat
 |0=>([0,0,0,0,0],0)
 |k+1=>((qz x y k).1.set k (ov x y k (qz x y k).2 5 % 2251799813685248),ov x y k (qz x y k).2 5/2251799813685248)
theorem wL (x y:List Nat):∀k,(qz x y k).1.length=5
 |0=>rfl
 |k+1=>by rw[qz,List.length_set,wL x y k]
theorem Pu (a b A B:Nat)(ha:a≤A)(hb:b≤B):a*b≤A*B:=Nat.mul_le_mul ha hb
theorem ac2 (x y:List Nat)(hx:tB x)(hy:tB y)(k i:Nat):prT x y k i<96341445617348601000000000000000:=by
 have h1:∀j,cf x j≤2251799813685285:=λj=>Nat.le_of_lt_succ (dC x _ (by decide) hx.lt j);have h2:∀j,cf y j≤2251799813685285:=λj=>Nat.le_of_lt_succ (dC y _ (by decide) hy.lt j);unfold prT;split
 ·have:=Pu _ _ _ _ (h1 i) (h2 (k+5-i));rw[Nat.mul_assoc];omega
 ·have:=Pu _ _ _ _ (h1 i) (h2 (k-i));omega
theorem Ig (x y:List Nat)(hx:tB x)(hy:tB y)(k c:Nat):∀i,ov x y k c i≤c+i*96341445617348601000000000000000
 |0=>by simp[ov]
 |i+1=>by have h1:=Ig x y hx hy k c i;have h2:=ac2 x y hx hy k i;rw[ov];omega
theorem tC (x y:List Nat)(hx:tB x)(hy:tB y):∀k,(qz x y k).2<288230376151711744
 |0=>by simp[qz]
 |k+1=>by have h1:=tC x y hx hy k;have h2:=Ig x y hx hy k (qz x y k).2 5;rw[qz];simp only;omega
theorem NJ (x y:List Nat)(hx:tB x)(hy:tB y)(k i:Nat)(hi:i≤5):ov x y k (qz x y k).2 i<649037107316853453566312041152512:=by have h1:=tC x y hx hy k;have h2:=Ig x y hx hy k (qz x y k).2 i;have h3:i*96341445617348601000000000000000≤5*96341445617348601000000000000000:=Nat.mul_le_mul_right _ hi;omega
def yA (x y:List Nat):List Nat:=(qz x y 5).1.set 0 (cf (qz x y 5).1 0+19*(qz x y 5).2)
theorem tD (a b c d e a' b' c' d' e' z:Nat):
  ov [a,b,c,d,e] [a',b',c',d',e'] 0 z 5=z+a*a'+19*b*e'+19*c*d'+19*d*c'+19*e*b'∧
  ov [a,b,c,d,e] [a',b',c',d',e'] 1 z 5=z+a*b'+b*a'+19*c*e'+19*d*d'+19*e*c'∧
  ov [a,b,c,d,e] [a',b',c',d',e'] 2 z 5=z+a*c'+b*b'+c*a'+19*d*e'+19*e*d'∧
  ov [a,b,c,d,e] [a',b',c',d',e'] 3 z 5=z+a*d'+b*c'+c*b'+d*a'+19*e*e'∧
  ov [a,b,c,d,e] [a',b',c',d',e'] 4 z 5=z+a*e'+b*d'+c*c'+d*b'+e*a':=by
 refine⟨?_,?_,?_,?_,?_⟩<;>simp[ov,prT,cf]
theorem Gs (x y:List Nat):∃t0 t1 t2 t3 t4:Nat,t0=ov x y 0 0 5∧t1=ov x y 1 (t0/2251799813685248) 5∧t2=ov x y 2 (t1/2251799813685248) 5∧t3=ov x y 3 (t2/2251799813685248) 5∧t4=ov x y 4 (t3/2251799813685248) 5∧
  qz x y 5=([t0 % 2251799813685248,t1 % 2251799813685248,t2 % 2251799813685248,t3 % 2251799813685248,t4 % 2251799813685248],t4/2251799813685248):=by
 refine⟨_,_,_,_,_,rfl,rfl,rfl,rfl,rfl,?_⟩;simp[qz]
theorem Ri (S0 S1 S2 S3 S4 t0 t1 t2 t3 t4:Nat)(h0:t0=S0)(h1:t1=t0/2251799813685248+S1)(h2:t2=t1/2251799813685248+S2)(h3:t3=t2/2251799813685248+S3)(h4:t4=t3/2251799813685248+S4):
  fy [t0 % 2251799813685248+19*(t4/2251799813685248),t1 % 2251799813685248,t2 % 2251799813685248,t3 % 2251799813685248,t4 % 2251799813685248]+bJ*(t4/2251799813685248)=fy [S0,S1,S2,S3,S4]:=by
 simp only[fy,nH];omega
theorem YR (a b c d e a' b' c' d' e':Nat):
  (a+2251799813685248*(b+2251799813685248*(c+2251799813685248*(d+2251799813685248*e))))*(a'+2251799813685248*(b'+2251799813685248*(c'+2251799813685248*(d'+2251799813685248*e'))))=
   (a*a'+19*b*e'+19*c*d'+19*d*c'+19*e*b')+2251799813685248*((a*b'+b*a'+19*c*e'+19*d*d'+19*e*c')+2251799813685248*((a*c'+b*b'+c*a'+19*d*e'+19*e*d')+2251799813685248*((a*d'+b*c'+c*b'+d*a'+19*e*e')+2251799813685248*(a*e'+b*d'+c*c'+d*b'+e*a'))))+
   57896044618658097711785492504343953926634992332820282019728792003956564819949*((b*e'+c*d'+d*c'+e*b')+2251799813685248*((c*e'+d*d'+e*c')+2251799813685248*((d*e'+e*d')+2251799813685248*(e*e')))):=by
 grind
theorem Rj (x y:List Nat)(hx:tB x)(hy:tB y):∃q Q:Nat,fy (yA x y)+bJ*q=fy x*fy y-bJ*Q∧bJ*Q≤fy x*fy y:=by
 obtain⟨a,b,c,d,e,rfl,_⟩:=hx;obtain⟨a',b',c',d',e',rfl,_⟩:=hy;obtain⟨t0,t1,t2,t3,t4,h0,h1,h2,h3,h4,hm⟩:=Gs [a,b,c,d,e] [a',b',c',d',e'];rw[(tD a b c d e a' b' c' d' e' _).1] at h0;rw[(tD a b c d e a' b' c' d' e' _).2.1] at h1;rw[(tD a b c d e a' b' c' d' e' _).2.2.1] at h2;rw[(tD a b c d e a' b' c' d' e' _).2.2.2.1] at h3;rw[(tD a b c d e a' b' c' d' e' _).2.2.2.2] at h4;have hs:=Ri (a*a'+19*b*e'+19*c*d'+19*d*c'+19*e*b') (a*b'+b*a'+19*c*e'+19*d*d'+19*e*c') (a*c'+b*b'+c*a'+19*d*e'+19*e*d') (a*d'+b*c'+c*b'+d*a'+19*e*e') (a*e'+b*d'+c*c'+d*b'+e*a') t0 t1 t2 t3 t4
  (by omega) (by omega) (by omega) (by omega) (by omega)
 have hr:=YR a b c d e a' b' c' d' e';have he:yA [a,b,c,d,e] [a',b',c',d',e']=[t0 % 2251799813685248+19*(t4/2251799813685248),t1 % 2251799813685248,t2 % 2251799813685248,t3 % 2251799813685248,t4 % 2251799813685248]:=by rw[yA,hm];rfl
 refine⟨t4/2251799813685248,(b*e'+c*d'+d*c'+e*b')+2251799813685248*((c*e'+d*d'+e*c')+2251799813685248*((d*e'+e*d')+2251799813685248*(e*e'))),?_,?_⟩
 ·rw[he,hs,nH];simp only[fy,Nat.mul_zero,Nat.add_zero];omega
 ·rw[nH];simp only[fy,Nat.mul_zero,Nat.add_zero];omega
theorem U0 (x y:List Nat)(hx:tB x)(hy:tB y):fy (yA x y) % bJ=fy x % bJ*(fy y % bJ) % bJ:=by
 obtain⟨q,Q,h1,h2⟩:=Rj x y hx hy;rw[←Nat.mul_mod];have h3:fy x*fy y=fy (yA x y)+bJ*(q+Q):=by rw[Nat.mul_add];omega
 rw[h3,Nat.add_mul_mod_self_left]
theorem NK (x y:List Nat)(hx:tB x)(hy:tB y):(yA x y).length=5∧(∀t∈yA x y,t<9223372036854775808)∧tB (lV (yA x y)):=by
 have ho:=tC x y hx hy 5;obtain⟨t0,t1,t2,t3,t4,h0,h1,h2,h3,h4,hm⟩:=Gs x y;have he:yA x y=[t0 % 2251799813685248+19*(t4/2251799813685248),t1 % 2251799813685248,t2 % 2251799813685248,t3 % 2251799813685248,t4 % 2251799813685248]:=by rw[yA,hm];rfl
 rw[hm] at ho;simp only at ho;clear h0 h1 h2 h3 h4 hm;rw[he];refine⟨rfl,by simp;omega,?_⟩;exact Ec _ _ _ _ _ (by omega) (by omega) (by omega) (by omega) (by omega) (.inr ⟨by omega,by omega,by omega,by omega⟩)
def NL (n:Nat):Nat→List Nat
 |0=>[0,0,0,0,0]
 |k+1=>(NL n k).set k (n/2251799813685248^k % 2251799813685248)
theorem yB (n:Nat):∀k,(NL n k).length=5
 |0=>rfl
 |k+1=>by rw[NL,List.length_set,yB n k]
theorem Lb (n:Nat):NL n 5=[n/2251799813685248^0 % 2251799813685248,n/2251799813685248^1 % 2251799813685248,n/2251799813685248^2 % 2251799813685248,n/2251799813685248^3 % 2251799813685248,n/2251799813685248^4 % 2251799813685248]:=by simp[NL]
theorem YS (n:Nat):tB (NL n 5):=
 ⟨_,_,_,_,_,Lb n,Nat.lt_trans (Nat.mod_lt _ (by decide)) (by decide),Nat.mod_lt _ (by decide),Nat.mod_lt _ (by decide),Nat.mod_lt _ (by decide),Nat.mod_lt _ (by decide)⟩
theorem YT (n:Nat):fy (NL n 5)=n % 2^255:=by rw[Lb];simp only[fy,show(2251799813685248:Nat)^0=1 from rfl,show(2251799813685248:Nat)^1=2251799813685248 from rfl,show(2251799813685248:Nat)^2=5070602400912917605986812821504 from rfl,show(2251799813685248:Nat)^3=11417981541647679048466287755595961091061972992 from rfl,show(2251799813685248:Nat)^4=25711008708143844408671393477458601640355247900524685364822016 from rfl,show(2:Nat)^255=57896044618658097711785492504343953926634992332820282019728792003956564819968 from rfl];omega
theorem ac3 (l:aO)(k q s:Nat)(hk:k<5)(hq:q=min (k*51/8) 24)(hs:s=k*51-8*q):sW l false q 8/2^s % 2251799813685248=fc l/2251799813685248^k % 2251799813685248:=by
 rw[qs];generalize fc l=n
 have:k=0∨k=1∨k=2∨k=3∨k=4:=by omega
 rcases this with rfl|rfl|rfl|rfl|rfl
 ·obtain rfl:q=0:=by rw[hq];rfl
  obtain rfl:s=0:=by rw[hs]
  simp only[show(256:Nat)^0=1 from rfl,show(256:Nat)^8=18446744073709551616 from rfl];omega
 ·obtain rfl:q=6:=by rw[hq];rfl
  obtain rfl:s=3:=by rw[hs]
  simp only[show(256:Nat)^6=281474976710656 from rfl,show(256:Nat)^8=18446744073709551616 from rfl,show(2:Nat)^3=8 from rfl,show(2251799813685248:Nat)^1=281474976710656*8 from rfl,←Nat.div_div_eq_div_mul];generalize n/281474976710656=m
  omega
 ·obtain rfl:q=12:=by rw[hq];rfl
  obtain rfl:s=6:=by rw[hs]
  simp only[show(256:Nat)^12=79228162514264337593543950336 from rfl,show(256:Nat)^8=18446744073709551616 from rfl,show(2:Nat)^6=64 from rfl,show(2251799813685248:Nat)^2=79228162514264337593543950336*64 from rfl,←Nat.div_div_eq_div_mul];generalize n/79228162514264337593543950336=m
  omega
 ·obtain rfl:q=19:=by rw[hq];rfl
  obtain rfl:s=1:=by rw[hs]
  simp only[show(256:Nat)^8=18446744073709551616 from rfl,show(2:Nat)^1=2 from rfl,show(2251799813685248:Nat)^3=256^19*2 from rfl,←Nat.div_div_eq_div_mul];generalize n/256^19=m
  omega
 ·obtain rfl:q=24:=by rw[hq];rfl
  obtain rfl:s=12:=by rw[hs]
  simp only[show(256:Nat)^8=18446744073709551616 from rfl,show(2:Nat)^12=4096 from rfl,show(2251799813685248:Nat)^4=256^24*4096 from rfl,←Nat.div_div_eq_div_mul];generalize n/256^24=m
  omega
theorem Lc:∀a b n,zA (a+b) n=zA a n++zA b (n/256^a)
 |0,b,n=>by simp[zA]
 |a+1,b,n=>by rw[show a+1+b=(a+b)+1 by omega,zA,zA,Lc a b (n/256),Nat.div_div_eq_div_mul,Nat.pow_succ,Nat.mul_comm 256 (256^a)];rfl
theorem Pv:∀a n,zA a (n % 256^a)=zA a n
 |0,n=>rfl
 |a+1,n=>by
  have h1:n % 256^(a+1) % 256=n % 256:=by rw[Nat.pow_succ,Nat.mul_comm,Nat.mod_mul_right_mod]
  have h2:n % 256^(a+1)/256=n/256 % 256^a:=by rw[Nat.pow_succ,Nat.mul_comm,Nat.mod_mul_right_div_self]
  rw[zA,zA,h2,Pv a (n/256)];simp only[h1]
def WQ (x:Nat):Nat→aO
 |0=>[]
 |k+1=>WQ x k++zA 8 (x/18446744073709551616^k % 18446744073709551616)
theorem Pw (x:Nat):∀k,WQ x k=zA (8*k) x
 |0=>rfl
 |k+1=>by rw[WQ,Pw x k,show 8*(k+1)=8*k+8 by omega,Lc (8*k) 8 x,show(18446744073709551616:Nat)=256^8 from rfl,Pv 8,Nat.pow_mul]
theorem U4 (l:List Nat)(hl:l.length=5)(hb:∀x∈l,x<2251799813685248)(k:Nat)(hk:k<4):
  cf l k/2^(13*k)+cf l (k+1)*2^(51-13*k) % 18446744073709551616=fy l/18446744073709551616^k % 18446744073709551616:=by
 obtain⟨a,b,c,d,e,rfl⟩:=wu l hl;simp at hb;obtain⟨ha,hb,hc,hd,he⟩:=hb;have:k=0∨k=1∨k=2∨k=3:=by omega
 rcases this with rfl|rfl|rfl|rfl<;>simp[cf,fy]<;>omega
def pw (x e:Nat):Nat:=x^e % bJ
theorem ac4 (x:Nat)(h:x<bJ):pw x 1=x:=by rw[pw,Nat.pow_one,Nat.mod_eq_of_lt h]
theorem U5 (x e f:Nat):pw x e*pw x f % bJ=pw x (e+f):=by rw[pw,pw,pw,←Nat.mul_mod,Nat.pow_add]
theorem Rk (x e:Nat):pw x e*pw x e % bJ=pw x (e*2):=by rw[U5,Nat.mul_two]
theorem ac5 (x e:Nat)(h:ui=e):rj x=pw x e:=by rw[←h];rfl
theorem U6:ui=57896044618658097711785492504343953926634992332820282019728792003956564819947:=rfl
def nf (n:Nat):Value:=.int .u64 (n:Int)
def Nf (w:aw)(g:Nat)(l:List Nat):Prop:=w.heap[g]?=some (.cells (l.map nf).toArray 82 (0,0))
theorem Nf.set {w:aw}{g:Nat}{l:List Nat}(h:Nf w g l)(i:Nat)(x:Nat):Nf (w.setCell ⟨g,i,none⟩ (nf x)) g (l.set i x):=by have:=heap_setCell_same w g i _ _ (nf x) h;unfold Nf;rw[this,List.map_set];simp
theorem Nf.other {w:aw}{g g':Nat}{l:List Nat}(h:Nf w g l)(eL:g≠g')(i:Nat)(v:Value):Nf (w.setCell ⟨g',i,none⟩ v) g l:=by unfold Nf;rw[heap_setCell_other w ⟨g',i,none⟩ g v eL];exact h
theorem Nf.drew {w:aw}{g:Nat}{l:List Nat}(h:Nf w g l):Nf w.drew g l:=h
theorem Nf.word {w:aw}{g:Nat}{l:List Nat}(h:Nf w g l)(i:Nat)(hi:i<l.length):
  w.cell? ⟨g,i,none⟩=some (.int .u64 (cf l i:Int))∧w.frozen? ⟨g,i,none⟩=false:=by
 refine⟨?_,frozen_of_row w g i _ _ h⟩;rw[cell_of_row w g i _ _ (0,0) h,jk l i hi];simp[hi,nf]
theorem Nf.lt {w:aw}{g:Nat}{l:List Nat}(h:Nf w g l):g<w.heap.size:=(gD.1 h).1
theorem Nf.later {w w':aw}{g:Nat}{l:List Nat}(h:Nf w g l)(hb:Below w.heap.size w w'):Nf w' g l:=by unfold Nf;rw[hb.block g h.lt];exact h
theorem Nf.alloc {w:aw}{g:Nat}{l:List Nat}(h:Nf w g l)(o:Obj):Nf (w.alloc o) g l:=by unfold Nf;rw[jE _ _ _ h.lt];exact h
theorem Nf.fF {w:aw}{g g':Nat}{l:List Nat}(h:Nf w g l)(eL:g≠g')(cs:Array Value):Nf (w.setRow g' cs) g l:=by unfold Nf;rw[setRow_other _ _ _ _ eL];exact h
theorem eT (l:List Nat):∀u∈l.map nf,u.oneCell'=true:=by intro u hu;simp only[List.mem_map] at hu;obtain⟨c,_,rfl⟩:=hu;rfl
theorem jP (l:List Nat)(hl:l.length=5):(prog.info? 82).map (·.size)=some (l.map nf).toArray.size:=by
 have e1:(prog.info? 82).map (·.size)=some 5:=by kernel_rfl
 rw[e1];simp[hl]
theorem nI {P:Program}{fn:Func}{p q:Tmp}{ty:TypeId}(h:fn.results= #[.cell p ty,.tmp q])(tmps:Array Value)(w:aw)(g1:Nat)(t:TypeId)(A:Array Value)(v:Value)(d:TypeDesc)
  (hp:tmps.getD p ag= .pointer (some ⟨g1,0,none⟩)) (hq:tmps.getD q ag=v)
  (h1:w.heap[g1]?=some (.cells A t (0,0)))
  (hu:P.underlying ty=some d) (hd:(match d with| .struct _| .array _ _=>true|_=>false)=true) (hA:(P.info? ty).map (·.size)=some A.size):
  (results fn tmps).run P w= .ok (.tuple #[.agg A,v]) w:=by
 have ND:tmps[p]?.getD ag= .pointer (some ⟨g1,0,none⟩):=by simpa using hp
 have NF:tmps[q]?.getD ag=v:=by simpa using hq
 simp[results,h,ND,NF,asAddr,run_loadVar_row w g1 t ty A (0,0) d h1 hu hd hA]
structure FB (w:aw)(g r:Nat)(l:List Nat)(W:aw):Prop where
 now:Nf W g l
 res:Nf W r [0,0,0,0,0]
 ne:g≠r
 bg:w.heap.size≤g
 br:w.heap.size≤r
 aY:Below w.heap.size w W
theorem FB.set {w W:aw}{g r:Nat}{l:List Nat}(h:FB w g r l W)(i x:Nat):FB w g r (l.set i x) (W.setCell ⟨g,i,none⟩ (nf x)):=by have hg:=h.bg;exact⟨h.now.set i x,h.res.other (Ne.symm h.ne) i _,h.ne,h.bg,h.br,h.aY.setCell (p:=⟨g,i,none⟩) (by show _≤g;omega) _⟩
theorem FB.QC (w:aw)(l:List Nat):FB w w.heap.size (w.heap.size+1) l ((w.alloc (.cells (l.map nf).toArray 82)).alloc (.cells #[.int .u64 0,.int .u64 0,.int .u64 0,.int .u64 0,.int .u64 0] 82)):=by
 refine⟨?_,?_,by omega,by omega,by omega,?_⟩
 ·unfold Nf;rw[jE _ _ _ (by simp)];exact eC w _
 ·have:=eC (w.alloc (.cells (l.map nf).toArray 82)) (.cells #[.int .u64 0,.int .u64 0,.int .u64 0,.int .u64 0,.int .u64 0] 82);rw[fx] at this;exact this
 ·exact eF.alloc (by simp) _
theorem FB.later {w W W':aw}{g r:Nat}{l:List Nat}(t:FB w g r l W)(hb:Below W.heap.size W W'):FB w g r l W':=
 ⟨t.now.later hb,t.res.later hb,t.ne,t.bg,t.br,t.aY.trans (hb.mono t.aY.size)⟩
theorem FB.put {w W:aw}{g r:Nat}{l:List Nat}(t:FB w g r l W)(l':List Nat):FB w g r l' (W.setRow g (l'.map nf).toArray):=
 ⟨setRow_heap W g _ _ _ _ t.now,t.res.fF (Ne.symm t.ne) _,t.ne,t.bg,t.br,below_setRow t.aY t.bg _⟩
theorem Px (n:Nat)(h:n<18446744073709551616):bits .and .u64 (n:Int) 2251799813685247=((n % 2251799813685248:Nat):Int):=by
 have e:(BitVec.ofInt 64 (n:Int)&&&BitVec.ofInt 64 2251799813685247).toNat=n % 2251799813685248:=by
  rw[BitVec.toNat_and,BitVec.toNat_ofInt];have h7:(BitVec.ofInt 64 2251799813685247).toNat=2^51-1:=by decide
  rw[h7,Nat.and_two_pow_sub_one_eq_mod];omega
 show IntKind.u64.wrap ((BitVec.ofInt 64 (n:Int)&&&BitVec.ofInt 64 2251799813685247).toNat:Int)=_;rw[e,IntKind.wrap_u64];omega
theorem Ld (l:List Nat)(n:Nat)(w:aw)(hl:l.length=5)(hb:∀x∈l,x<9223372036854775808)(hn:n<4611686018427387904):
  Calls prog 100 #[.agg (l.map nf).toArray,.int .u64 (n:Int)] w λe w'=>e= .returned (.tuple #[.agg ((jy l n 5).1.map nf).toArray,.int .u64 ((jy l n 5).2:Int)])∧Below w.heap.size w w':=by
 go_enter func100,ntmps100
 go_wp2
 refine bY (P:=Code.wp prog _ _ _) (R:=λW=>ae (FB w w.heap.size (w.heap.size+1) l W)) _ (FB.QC w l) ?_;intro W0 ny;generalize hg:w.heap.size=g at ny⊢
 generalize hr:g+1=r at ny⊢
 go_loopw [6,9] (λo i wr=>∃k x:Nat,k≤5∧i= .int .i64 k∧o= .int .u64 (x:Int)∧ae ((jy l n k).2=x)∧ae (FB w g r (jy l n k).1 wr)) (λ_ i _=>5-(intOf i).toNat)
 case atStart=>exact⟨0,n,by omega,rfl,rfl,rfl,ny⟩
 case round=>
  clear ny;obtain⟨k,x,hk,rfl,rfl,hx,hN⟩:=hrel
  by_cases dN:k<5
  ·have sM:(k:Int)<5:=by omega
   obtain⟨a,ha⟩:=aW (cf (jy l n k).1 k);obtain⟨cc,fr⟩:=hN.out.now.word k (by rw[mV];omega);rw[ha] at cc;have jb:=(hN.out.set k (a+x)).set k ((a+x) % 2251799813685248);rw[List.set_set] at jb;have yR:ae (FB w g r (jy l n (k+1)).1 ((wr.setCell ⟨g,k,none⟩ (.int .u64 ((a+x:Nat):Int))).setCell ⟨g,k,none⟩ (.int .u64 (((a+x) % 2251799813685248:Nat):Int)))):=by rw[jy,ha,hx.out];exact jb
   have LV:=Gr l n hb hn k;rw[hx.out] at LV;have Fm:a<9223372036854775808:=by rw[←ha,Ie l n k k (di _)];exact dC l _ (by omega) hb k
   have e1:IntKind.u64.wrap ((a:Int)+(x:Int))=((a+x:Nat):Int):=by rw[IntKind.wrap_u64];omega
   have E1:ae (IntKind.u64.wrap ((a:Int)+(x:Int))=((a+x:Nat):Int)):=e1;have E2:ae (bits .and .u64 ((a+x:Nat):Int) 2251799813685247=(((a+x) % 2251799813685248:Nat):Int)):=Px (a+x) (by omega);have E3:ae ((jy l n (k+1)).2=(a+x)/2251799813685248):=by rw[jy,ha,hx.out];rfl
   clear hN jb e1 hx ha LV Fm
   go_wp2
   rw[E1.out,E2.out];exact⟨⟨k+1,(a+x)/2251799813685248,by omega,by go_num,by congr 1<;>omega,E3,yR⟩,by simp[intOf];omega⟩
  ·have ek:k=5:=by omega
   subst ek;have G':¬((5:Nat):Int)<5:=by omega
   obtain⟨m,hm⟩:=aW ((jy l n 5).1);have rP:m.length=5:=by rw[←hm,mV,hl]
   rw[hm] at hN;have HM:ae ((jy l n 5).1=m):=hm;have IB:ae ((prog.info? 82).map (·.size)=some (m.map nf).toArray.size):=jP m rP;have xA:=aL wr r _ _ (m.map nf) hN.out.res (by simp[rP]) (eT m);have bh:=setRow_heap wr r _ (m.map nf).toArray _ _ hN.out.res;have bR:ae (Below w.heap.size w (wr.setRow r (m.map nf).toArray)):=below_setRow hN.out.aY hN.out.br _;obtain⟨W4,fj⟩:=aW (wr.setRow r (m.map nf).toArray);rw[fj] at xA bh bR;have cY:ae (W4.heap[r]?=some (.cells (m.map nf).toArray 82 (0,0))):=bh;clear bh fj hm hb
   go_wp2_with (first|refine wpList_load_row rfl 82 _ rfl g rfl 82 _ (0,0) _ hN.out.now underlying82 rfl IB.out ?_)
   (try simp only[nu,Exit.then])
   refine bodyPost_ret (nI rfl _ _ r 82 _ (.int .u64 (x:Int)) _ rfl rfl cY.o underlying82 rfl IB.out) rfl ?_;exact⟨by rw[HM.o,hx.out],by rw[←hg];exact bR.o⟩
theorem uL (l:List Nat)(w:aw)(hl:l.length=5)(hb:∀x∈l,x<9223372036854775808):
  Calls prog 73 #[.agg (l.map nf).toArray] w λe w'=>e= .returned (.agg ((lV l).map nf).toArray)∧Below w.heap.size w w':=by
 have IL:ae ((prog.info? 82).map (·.size)=some (l.map nf).toArray.size):=jP l hl;have E4:ae (FB w w.heap.size (w.heap.size+1) l ((w.alloc (.cells (l.map nf).toArray 82)).alloc (.cells #[.int .u64 0,.int .u64 0,.int .u64 0,.int .u64 0,.int .u64 0] 82))):=FB.QC w l
 go_enter func73,ntmps73
 go_wp2_with (first|refine wpList_load_row rfl 82 _ rfl w.heap.size rfl 82 _ (0,0) _ E4.o.now underlying82 rfl IL.out ?_|fail)
 refine(Ld l 0 _ hl hb (by decide)).mono ?_;rintro e W1 ⟨rfl,ck⟩;have jb:=E4.o.later ck;obtain⟨m,hm⟩:=aW ((jy l 0 5).1);obtain⟨x,hx⟩:=aW ((jy l 0 5).2);have rP:m.length=5:=by rw[←hm,mV,hl]
 obtain⟨a,ha⟩:=aW (cf m 0);have hc:lV l=m.set 0 (a+19*x):=by rw[lV,hm,hx,ha]
 obtain⟨Fm,Dp⟩:a<2251799813685248∧x<16384:=by obtain⟨p0,p1,p2,p3,p4,rfl⟩:=wu l hl;obtain⟨o0,o1,o2,o3,o4,h0,h1,h2,h3,h4,hp⟩:=tA p0 p1 p2 p3 p4 0;rw[hp] at hm hx;simp at hb;rw[←ha,←hm,←hx];refine⟨Nat.mod_lt _ (by decide),?_⟩;show o4<_;omega
 rw[hm,hx];have xA:=aL W1 w.heap.size _ _ (m.map nf) jb.now (by simp[rP,hl]) (eT m);have Je:=jb.put m;obtain⟨W2,fV⟩:=aW (W1.setRow w.heap.size (m.map nf).toArray);rw[fV] at xA Je;obtain⟨cc,fr⟩:=Je.now.word 0 (by omega);rw[ha] at cc;have I4:=Je.set 0 (a+19*x);have e1:IntKind.u64.wrap ((a:Int)+19*(x:Int))=((a+19*x:Nat):Int):=by rw[IntKind.wrap_u64];omega
 obtain⟨W3,nV⟩:=aW (W2.setCell ⟨w.heap.size,0,none⟩ (.int .u64 (IntKind.u64.wrap ((a:Int)+19*(x:Int)))));have Np:FB w w.heap.size (w.heap.size+1) (lV l) W3:=by rw[hc,←nV,e1];exact I4
 obtain⟨c,kZ⟩:=aW (lV l);have jc:c.length=5:=by rw[←kZ,mW,hl]
 rw[kZ] at Np;have HC:ae (lV l=c):=kZ;have Cr:ae (FB w w.heap.size (w.heap.size+1) c W3):=Np;have pI:ae (W2.setCell ⟨w.heap.size,0,none⟩ (.int .u64 (IntKind.u64.wrap ((a:Int)+19*(x:Int))))=W3):=nV;have IC:ae ((prog.info? 82).map (·.size)=some (c.map nf).toArray.size):=jP c jc;have eO:=aL W3 (w.heap.size+1) _ _ (c.map nf) Cr.o.res (by simp[jc]) (eT c);have bh:=setRow_heap W3 (w.heap.size+1) _ (c.map nf).toArray _ _ Cr.o.res;have bR:ae (Below w.heap.size w (W3.setRow (w.heap.size+1) (c.map nf).toArray)):=below_setRow Cr.o.aY Cr.o.br _;obtain⟨W4,fj⟩:=aW (W3.setRow (w.heap.size+1) (c.map nf).toArray);rw[fj] at eO bh bR;have cY:ae (W4.heap[w.heap.size+1]?=some (.cells (c.map nf).toArray 82 (0,0))):=bh;clear bh fj Np nV I4 Je fV jb hm hx ha hc kZ hb ck E4 e1 Fm
 go_wp2_with (first|(rw[pI.o];refine wpList_load_row rfl 82 _ rfl w.heap.size rfl 82 _ (0,0) _ Cr.o.now underlying82 rfl IC.out ?_))
 (try simp only[nu,Exit.then])
 refine bodyPost_ret (results_cell_row rfl _ _ (w.heap.size+1) 82 _ (0,0) _ rfl cY.o underlying82 rfl IC.out) rfl ?_;exact⟨by rw[HC.o],bR.o⟩
theorem NN (l:List Nat)(w:aw)(hE:tB l):
  Calls prog 75 #[.agg (l.map nf).toArray] w λe w'=>e= .returned (.agg ((Ed l).map nf).toArray)∧Below w.heap.size w w':=by
 have hl:=hE.len;have IL:ae (∀m:List Nat,m.length=5→(prog.info? 82).map (·.size)=some (m.map nf).toArray.size):=λm hm=>jP m hm;have E4:ae (FB w w.heap.size (w.heap.size+1) l ((w.alloc (.cells (l.map nf).toArray 82)).alloc (.cells #[.int .u64 0,.int .u64 0,.int .u64 0,.int .u64 0,.int .u64 0] 82))):=FB.QC w l
 go_enter func75,ntmps75
 go_wp2_with (first|refine wpList_load_row rfl 82 _ rfl w.heap.size rfl 82 _ (0,0) _ E4.o.now underlying82 rfl (IL.out l hl) ?_|fail)
 refine(uL l _ hl hE.small).mono ?_;rintro e W1 ⟨rfl,ck⟩;have jb:=E4.o.later ck;have hin:=Pt l hE;obtain⟨m,hm⟩:=aW (lV l);have rP:m.length=5:=by rw[←hm,mW,hl]
 rw[hm] at hin⊢;have hle:Ed l=if 0<(jy m 19 5).2 then(jy m 19 5).1 else m:=by rw[Ed,hm]
 have xA:=aL W1 w.heap.size _ _ (m.map nf) jb.now (by simp[rP,hl]) (eT m);have Je:=jb.put m;obtain⟨W2,fV⟩:=aW (W1.setRow w.heap.size (m.map nf).toArray);rw[fV] at xA Je;have yl:ae (FB w w.heap.size (w.heap.size+1) m W2):=Je;have HLe:ae (Ed l=if 0<(jy m 19 5).2 then(jy m 19 5).1 else m):=hle;clear Je jb fV hm ck E4 hle
 go_wp2_with (first|refine wpList_load_row rfl 82 _ rfl w.heap.size rfl 82 _ (0,0) _ yl.o.now underlying82 rfl (IL.out m rP) ?_|fail)
 refine(Ld m 19 _ rP (λx hx=>Nat.lt_trans (hin x hx) (by decide)) (by decide)).mono ?_;rintro e W3 ⟨rfl,eZ⟩;have I4:=yl.o.later eZ;obtain⟨p,hp⟩:=aW ((jy m 19 5).1);obtain⟨o,ho⟩:=aW ((jy m 19 5).2);have tN:p.length=5:=by rw[←hp,mV,rP]
 have hLe:=HLe.o;rw[hp,ho] at hLe⊢;have acV:=fi W3 82 (p.map nf) 5 (by simp[tN]) (by kernel_rfl) (eT p);have hP:Nf (W3.alloc (.cells (p.map nf).toArray 82)) W3.heap.size p:=eC W3 _;have Np:FB w w.heap.size (w.heap.size+1) m (W3.alloc (.cells (p.map nf).toArray 82)):=I4.later eF;obtain⟨W4,fj⟩:=aW (W3.alloc (.cells (p.map nf).toArray 82));rw[fj] at acV hP Np;have HP:ae (Nf W4 W3.heap.size p):=hP;have Cr:ae (FB w w.heap.size (w.heap.size+1) m W4):=Np;clear hP Np I4 fj eZ yl hp ho HLe xA hin
 by_cases LV:0<o
 ·have Xq:0<(o:Int):=by omega
  rw[if_pos LV] at hLe;have HLe:ae (Ed l=p):=hLe;have eO:=aL W4 (w.heap.size+1) _ _ (p.map nf) Cr.o.res (by simp[tN]) (eT p);have bh:=setRow_heap W4 (w.heap.size+1) _ (p.map nf).toArray _ _ Cr.o.res;have bR:ae (Below w.heap.size w (W4.setRow (w.heap.size+1) (p.map nf).toArray)):=below_setRow Cr.o.aY Cr.o.br _;obtain⟨W5,xo⟩:=aW (W4.setRow (w.heap.size+1) (p.map nf).toArray);rw[xo] at eO bh bR;have cY:ae (W5.heap[w.heap.size+1]?=some (.cells (p.map nf).toArray 82 (0,0))):=bh;clear bh xo hLe LV
  go_wp2_with (first|refine wpList_load_row rfl 82 _ rfl W3.heap.size rfl 82 _ (0,0) _ HP.o underlying82 rfl (IL.out p tN) ?_|fail)
  (try simp only[nu,Exit.then])
  refine bodyPost_ret (results_cell_row rfl _ _ (w.heap.size+1) 82 _ (0,0) _ rfl cY.o underlying82 rfl (IL.out p tN)) rfl ?_;exact⟨by rw[HLe.o],bR.o⟩
 ·have Xq:¬0<(o:Int):=by omega
  rw[if_neg LV] at hLe;have HLe:ae (Ed l=m):=hLe;have eO:=aL W4 (w.heap.size+1) _ _ (m.map nf) Cr.o.res (by simp[rP]) (eT m);have bh:=setRow_heap W4 (w.heap.size+1) _ (m.map nf).toArray _ _ Cr.o.res;have bR:ae (Below w.heap.size w (W4.setRow (w.heap.size+1) (m.map nf).toArray)):=below_setRow Cr.o.aY Cr.o.br _;obtain⟨W5,xo⟩:=aW (W4.setRow (w.heap.size+1) (m.map nf).toArray);rw[xo] at eO bh bR;have cY:ae (W5.heap[w.heap.size+1]?=some (.cells (m.map nf).toArray 82 (0,0))):=bh;clear bh xo hLe LV
  go_wp2_with (first|refine wpList_load_row rfl 82 _ rfl w.heap.size rfl 82 _ (0,0) _ Cr.o.now underlying82 rfl (IL.out m rP) ?_|fail)
  (try simp only[nu,Exit.then])
  refine bodyPost_ret (results_cell_row rfl _ _ (w.heap.size+1) 82 _ (0,0) _ rfl cY.o underlying82 rfl (IL.out m rP)) rfl ?_;exact⟨by rw[HLe.o],bR.o⟩
structure F3 (w:aw)(g h r:Nat)(l m:List Nat)(W:aw):Prop where
 now:Nf W g l
 Pa:Nf W h m
 res:Nf W r [0,0,0,0,0]
 nh:h≠g
 nr:r≠g
 bg:w.heap.size≤g
 br:w.heap.size≤r
 aY:Below w.heap.size w W
theorem F3.set {w W:aw}{g h r:Nat}{l m:List Nat}(t:F3 w g h r l m W)(i x:Nat):F3 w g h r (l.set i x) m (W.setCell ⟨g,i,none⟩ (nf x)):=by have hg:=t.bg;exact⟨t.now.set i x,t.Pa.other t.nh i _,t.res.other t.nr i _,t.nh,t.nr,t.bg,t.br,t.aY.setCell (p:=⟨g,i,none⟩) (by show _≤g;omega) _⟩
theorem F3.drew {w W:aw}{g h r:Nat}{l m:List Nat}(t:F3 w g h r l m W):F3 w g h r l m W.drew:=
 ⟨t.now,t.Pa,t.res,t.nh,t.nr,t.bg,t.br,t.aY.drew⟩
theorem F3.later {w W W':aw}{g h r:Nat}{l m:List Nat}(t:F3 w g h r l m W)(hb:Below W.heap.size W W'):F3 w g h r l m W':=
 ⟨t.now.later hb,t.Pa.later hb,t.res.later hb,t.nh,t.nr,t.bg,t.br,t.aY.trans (hb.mono t.aY.size)⟩
theorem YU (w:aw)(l m:List Nat):Nf ((w.alloc (.cells (l.map nf).toArray 82)).alloc (.cells (m.map nf).toArray 82)) (w.heap.size+1) m∧Nf ((w.alloc (.cells (l.map nf).toArray 82)).alloc (.cells (m.map nf).toArray 82)) w.heap.size l:=by
 constructor
 ·have:=eC (w.alloc (.cells (l.map nf).toArray 82)) (.cells (m.map nf).toArray 82);rw[fx] at this;exact this
 ·unfold Nf;rw[jE _ _ _ (by simp)];exact eC w _
theorem F3.new (w:aw)(l m:List Nat):F3 w w.heap.size (w.heap.size+1) (w.heap.size+1+1) l m (((w.alloc (.cells (l.map nf).toArray 82)).alloc (.cells (m.map nf).toArray 82)).alloc (.cells #[.int .u64 0,.int .u64 0,.int .u64 0,.int .u64 0,.int .u64 0] 82)):=by
 obtain⟨h1,h2⟩:=YU w l m;refine⟨h2.alloc _,h1.alloc _,?_,by omega,by omega,by omega,by omega,?_⟩
 ·have:=eC ((w.alloc (.cells (l.map nf).toArray 82)).alloc (.cells (m.map nf).toArray 82)) (.cells #[.int .u64 0,.int .u64 0,.int .u64 0,.int .u64 0,.int .u64 0] 82);rw[fx,fx] at this;exact this
 ·exact(eF.alloc (by simp) _).alloc (by simp<;>omega) _
structure cO (cs:bK)(x:Nat):Prop where
 fR:∃l:List Nat,cs=l.map nf∧tB l∧fy l % bJ=x
theorem cO.len {cs:bK}{x:Nat}(h:cO cs x):cs.length=5:=by obtain⟨l,rfl,hE,_⟩:=h.fR;rw[List.length_map,hE.len]
theorem cO.one {cs:bK}{x:Nat}(h:cO cs x):∀v∈cs,v.oneCell'=true:=by obtain⟨l,rfl,hE,_⟩:=h.fR;exact eT l
theorem cO.lt {cs:bK}{x:Nat}(h:cO cs x):x<bJ:=by obtain⟨l,rfl,hE,hx⟩:=h.fR;rw[←hx];exact Nat.mod_lt _ qk
theorem cO.kind {cs:bK}{x:Nat}(h:cO cs x):∀v∈cs,∀d,v≠.int .i64 d:=by obtain⟨l,rfl,hE,_⟩:=h.fR;intro v hv d hd;obtain⟨c,_,rfl⟩:=List.mem_map.1 hv;cases hd
def dX:bK:=[.int .u64 0,.int .u64 0,.int .u64 0,.int .u64 0,.int .u64 0]
theorem Ee:cO dX 0:=⟨[0,0,0,0,0],rfl,⟨0,0,0,0,0,rfl,by decide,by decide,by decide,by decide,by decide⟩,by decide⟩
def tE (w:aw):Prop:=∃t fr,w.heap[0]?=some (.cells (L9.map nf).toArray t fr)
theorem tE.lt {w:aw}(h:tE w):0<w.heap.size:=by obtain⟨t,fr,h1⟩:=h;exact(gD.1 h1).1
theorem tE.later {w w':aw}(h:tE w)(hb:Below w.heap.size w w'):tE w':=by have hl:=h.lt;obtain⟨t,fr,h1⟩:=h;exact⟨t,fr,by rw[hb.block _ hl];exact h1⟩
theorem tE.word {w:aw}(h:tE w)(i:Nat)(hi:i<5):w.cell? ⟨0,i,none⟩=some (.int .u64 (cf L9 i:Int)):=by obtain⟨t,fr,h1⟩:=h;rw[cell_of_row w _ i _ t fr h1,jk L9 i (by simpa[L9] using hi)];simp[nf,show i<L9.length by simpa[L9] using hi]
theorem zR (A B:bK)(x y:Nat)(w:aw)(hA:cO A x)(hB:cO B y):
  Calls prog 70 #[.agg A.toArray,.agg B.toArray] w λe w'=>∃cs,e= .returned (.agg cs.toArray)∧cO cs ((x+y) % bJ)∧Below w.heap.size w w':=by
 obtain⟨l,rfl,QT,hx⟩:=hA.fR;obtain⟨m,rfl,vL,hy⟩:=hB.fR;have hl:=QT.len;have hm:=vL.len;have hb:=QT.lt;have hc:=vL.lt;have HV:ae (cO ((lV (iR l m 5)).map nf) ((x+y) % bJ)):=⟨_,rfl,YP l m QT vL,by rw[zQ _ (by rw[gW,hl]),YQ l m QT vL,hx,hy]⟩;clear hA hB hx hy QT vL
 go_enter func70,ntmps70
 go_wp2
 refine bY (P:=Code.wp prog _ _ _) (R:=λW=>ae (F3 w w.heap.size (w.heap.size+1) (w.heap.size+1+1) l m W)) _ (F3.new w l m) ?_;intro W0 ny;generalize hg:w.heap.size=g at ny⊢
 generalize hh:g+1=h at ny⊢
 generalize hr:h+1=r at ny⊢
 go_loopw [6] (λi wr=>∃k:Nat,k≤5∧i= .int .i64 k∧ae (F3 w g h r (iR l m k) m wr)) (λi _=>5-(intOf i).toNat)
 case atStart=>exact⟨0,by omega,rfl,ny⟩
 case round=>
  clear ny;obtain⟨k,hk,rfl,hN⟩:=hrel
  by_cases dN:k<5
  ·have sM:(k:Int)<5:=by omega
   obtain⟨a,ha⟩:=aW (cf (iR l m k) k);obtain⟨b,cU⟩:=aW (cf m k);obtain⟨W1,fg⟩:=aW (wr.drew);have jb:=hN.out.drew;rw[fg] at jb;obtain⟨c1,f1⟩:=jb.now.word k (by rw[gW];omega);obtain⟨c2,f2⟩:=jb.Pa.word k (by omega);rw[ha] at c1;rw[cU] at c2;have Fm:a<2251799813685286:=by rw[←ha,Di l m k k (di _)];exact dC l _ (by omega) hb k
   have BN:b<2251799813685286:=by rw[←cU];exact dC m _ (by omega) hc k
   obtain⟨W2,fV⟩:=aW (W1.setCell ⟨g,k,none⟩ (.int .u64 ((a:Int)+(b:Int))));have yl:ae (F3 w g h r (iR l m (k+1)) m W2):=by rw[iR,ha,cU,←fV];exact jb.set k (a+b)
   have E1:ae (IntKind.u64.wrap ((a:Int)+(b:Int))=(a:Int)+(b:Int)):=by show _=_;rw[IntKind.wrap_u64];omega
   have fU:ae (wr.drew=W1):=fg;have fw:ae (W1.setCell ⟨g,k,none⟩ (.int .u64 ((a:Int)+(b:Int)))=W2):=fV;clear hN jb fg fV ha cU
   go_wp2
   refine j6 (G:=bX) (by kernel_rfl) bX.refl bX.trans (by kernel_rfl) [(0,true),(1,true),(2,true),(3,true),(4,true),(5,true),(6,true),(7,true),(8,true),(9,true),(10,true)] 11 _ rfl ((Array.replicate 12 false).mapIdx λi _=>i<11) rfl (by kernel_rfl) (by kernel_rfl) (by kernel_rfl) (by kernel_rfl) ?_;intro KK cA;rw[fU.o]
   iterate 11 (refine aa rfl (by rfl) (v:=?_) ?_ ?_;rotate_left;(rintro w' rfl;go_simp;with_reducible rfl);go_simp)
   refine cA.out _ _ W2 (by rfl) (by rw[←fw.o];go_simp;rw[E1.out]) ?_;go_simp
   go_wp2
   exact⟨⟨k+1,by omega,by go_num,yl⟩,by simp[intOf];omega⟩
  ·have ek:k=5:=by omega
   subst ek;have G':¬((5:Nat):Int)<5:=by omega
   have BU:∀x∈iR l m 5,x<9223372036854775808:=by obtain⟨a0,a1,a2,a3,a4,rfl⟩:=wu l hl;obtain⟨b0,b1,b2,b3,b4,rfl⟩:=wu m hm;show∀x∈[a0+b0,a1+b1,a2+b2,a3+b3,a4+b4],x<9223372036854775808;simp at hb hc⊢;omega
   obtain⟨s,hs⟩:=aW (iR l m 5);have Ae:s.length=5:=by rw[←hs,gW,hl]
   rw[hs] at hN BU HV;have IB:ae ((prog.info? 82).map (·.size)=some (s.map nf).toArray.size):=jP s Ae;clear hs hb hc
   go_wp2_with (first|refine wpList_load_row rfl 82 _ rfl g rfl 82 _ (0,0) _ hN.out.now underlying82 rfl IB.out ?_|fail)
   refine(uL s wr Ae BU).mono ?_;rintro e w8 ⟨rfl,i9⟩;have Cq:=hN.out.later i9;obtain⟨c,kZ⟩:=aW (lV s);have jc:c.length=5:=by rw[←kZ,mW,Ae]
   rw[kZ] at HV⊢;have IC:ae ((prog.info? 82).map (·.size)=some (c.map nf).toArray.size):=jP c jc;have xA:=aL w8 r _ _ (c.map nf) Cq.res (by simp[jc]) (eT c);have bh:=setRow_heap w8 r _ (c.map nf).toArray _ _ Cq.res;have bR:ae (Below w.heap.size w (w8.setRow r (c.map nf).toArray)):=below_setRow Cq.aY Cq.br _;obtain⟨W4,fj⟩:=aW (w8.setRow r (c.map nf).toArray);rw[fj] at xA bh bR;have cY:ae (W4.heap[r]?=some (.cells (c.map nf).toArray 82 (0,0))):=bh;clear bh fj Cq hN i9 kZ
   go_wp2
   (try simp only[nu,Exit.then])
   refine bodyPost_ret (results_cell_row rfl _ _ r 82 _ (0,0) _ rfl cY.o underlying82 rfl IC.out) rfl ?_;exact⟨c.map nf,rfl,HV.o,by first|exact bR.o|(rw[←hg];exact bR.o)⟩
theorem zS (A B:bK)(x y:Nat)(w:aw)(hA:cO A x)(hB:cO B y)(ec:tE w):
  Calls prog 71 #[.agg A.toArray,.agg B.toArray] w λe w'=>∃cs,e= .returned (.agg cs.toArray)∧cO cs ((x+(bJ-y)) % bJ)∧Below w.heap.size w w':=by
 obtain⟨l,rfl,QT,hx⟩:=hA.fR;obtain⟨m,rfl,vL,hy⟩:=hB.fR;have hl:=QT.len;have hm:=vL.len;have hb:=QT.lt;have hc:=vL.lt;have HGe:ae (∀k,k<5→cf m k≤cf L9 k):=λk hk=>ac1 m vL k hk;have HV:ae (cO ((lV (od l m 5)).map nf) ((x+(bJ-y)) % bJ)):=⟨_,rfl,YN l m QT vL,by rw[zQ _ (by rw[pT,hl]),YO l m QT vL,hx,hy]⟩;have BU:∀x∈od l m 5,x<9223372036854775808:=by obtain⟨a0,a1,a2,a3,a4,rfl⟩:=wu l hl;obtain⟨b0,b1,b2,b3,b4,rfl⟩:=wu m hm;rw[yz];simp at hb hc⊢;omega
 have WR:ae (∀x∈od l m 5,x<9223372036854775808):=BU;have dG:ae (tE w):=ec;clear hA hB hx hy QT vL BU ec
 go_enter func71,ntmps71
 go_wp2
 refine bY (P:=Code.wp prog _ _ _) (R:=λW=>ae (F3 w w.heap.size (w.heap.size+1) (w.heap.size+1+1) l m W)) _ (F3.new w l m) ?_;intro W0 ny;generalize hg:w.heap.size=g at ny⊢
 generalize hh:g+1=h at ny⊢
 generalize hr:h+1=r at ny⊢
 go_loopw [6] (λi wr=>∃k:Nat,k≤5∧i= .int .i64 k∧ae (F3 w g h r (od l m k) m wr)) (λi _=>5-(intOf i).toNat)
 case atStart=>exact⟨0,by omega,rfl,ny⟩
 case round=>
  clear ny;obtain⟨k,hk,rfl,hN⟩:=hrel
  by_cases dN:k<5
  ·have sM:(k:Int)<5:=by omega
   obtain⟨a,ha⟩:=aW (cf (od l m k) k);obtain⟨b,cU⟩:=aW (cf m k);obtain⟨t,ht⟩:=aW (cf L9 k);obtain⟨W1,fg⟩:=aW (wr.drew);have jb:=hN.out.drew;rw[fg] at jb;obtain⟨c1,f1⟩:=jb.now.word k (by rw[pT];omega);obtain⟨c2,f2⟩:=jb.Pa.word k (by omega);have c3:=(dG.o.later jb.aY).word k dN;rw[ha] at c1;rw[cU] at c2;rw[ht] at c3;have Fm:a<2251799813685286:=by rw[←ha,La l m k k (di _)];exact dC l _ (by omega) hb k
   have rp:=ac0 k;have htg:=HGe.o k dN;rw[ht] at rp htg;rw[cU] at htg;obtain⟨s,hs⟩:=aW (t-b);have E0:ae (IntKind.u64.wrap ((t:Int)-(b:Int))=(s:Int)):=by show _=_;rw[IntKind.wrap_u64];omega
   have e1:IntKind.u64.wrap ((a:Int)+(s:Int))=(a:Int)+(s:Int):=by rw[IntKind.wrap_u64];omega
   have E1:ae (IntKind.u64.wrap ((a:Int)+(s:Int))=(a:Int)+(s:Int)):=e1;obtain⟨W2,fV⟩:=aW (W1.setCell ⟨g,k,none⟩ (.int .u64 ((a:Int)+(s:Int))));have yl:ae (F3 w g h r (od l m (k+1)) m W2):=by rw[od,ha,cU,ht,hs,←fV];exact jb.set k (a+s)
   have fU:ae (wr.drew=W1):=fg;have fw:ae (W1.setCell ⟨g,k,none⟩ (.int .u64 ((a:Int)+(s:Int)))=W2):=fV;clear hN jb fg fV ha cU ht Fm rp htg hs e1
   go_wp2
   refine j6 (G:=bX) (by kernel_rfl) bX.refl bX.trans (by kernel_rfl) [(0,true),(1,true),(2,true),(3,true),(4,true),(5,true),(6,true),(7,true),(8,true),(9,true),(10,true),(11,true),(12,true),(13,true),(14,true)] 15 _ rfl ((Array.replicate 16 false).mapIdx λi _=>i<15) rfl (by kernel_rfl) (by kernel_rfl) (by kernel_rfl) (by kernel_rfl) ?_;intro KK cA;rw[fU.o]
   iterate 11 (refine aa rfl (by rfl) (v:=?_) ?_ ?_;rotate_left;(rintro w' rfl;go_simp;with_reducible rfl);go_simp)
   refine aa rfl (by rfl) (v:=.int .u64 (s:Int)) (by rintro w' rfl;go_simp;rw[E0.out]) ?_;go_simp
   iterate 3 (refine aa rfl (by rfl) (v:=?_) ?_ ?_;rotate_left;(rintro w' rfl;go_simp;with_reducible rfl);go_simp)
   refine cA.out _ _ W2 (by rfl) (by rw[←fw.o];go_simp;rw[E1.out]) ?_;go_simp
   go_wp2
   exact⟨⟨k+1,by omega,by go_num,yl⟩,by simp[intOf];omega⟩
  ·have ek:k=5:=by omega
   subst ek;have G':¬((5:Nat):Int)<5:=by omega
   obtain⟨s,hs⟩:=aW (od l m 5);have Ae:s.length=5:=by rw[←hs,pT,hl]
   rw[hs] at hN WR HV;have IB:ae ((prog.info? 82).map (·.size)=some (s.map nf).toArray.size):=jP s Ae;clear hs hb hc
   go_wp2_with (first|refine wpList_load_row rfl 82 _ rfl g rfl 82 _ (0,0) _ hN.out.now underlying82 rfl IB.out ?_|fail)
   refine(uL s wr Ae WR.o).mono ?_;rintro e w8 ⟨rfl,i9⟩;have Cq:=hN.out.later i9;obtain⟨c,kZ⟩:=aW (lV s);have jc:c.length=5:=by rw[←kZ,mW,Ae]
   rw[kZ] at HV⊢;have IC:ae ((prog.info? 82).map (·.size)=some (c.map nf).toArray.size):=jP c jc;have xA:=aL w8 r _ _ (c.map nf) Cq.res (by simp[jc]) (eT c);have bh:=setRow_heap w8 r _ (c.map nf).toArray _ _ Cq.res;have bR:ae (Below w.heap.size w (w8.setRow r (c.map nf).toArray)):=below_setRow Cq.aY Cq.br _;obtain⟨W4,fj⟩:=aW (w8.setRow r (c.map nf).toArray);rw[fj] at xA bh bR;have cY:ae (W4.heap[r]?=some (.cells (c.map nf).toArray 82 (0,0))):=bh;clear bh fj Cq hN i9 kZ
   go_wp2
   (try simp only[nu,Exit.then])
   refine bodyPost_ret (results_cell_row rfl _ _ r 82 _ (0,0) _ rfl cY.o underlying82 rfl IC.out) rfl ?_;exact⟨c.map nf,rfl,HV.o,by first|exact bR.o|(rw[←hg];exact bR.o)⟩
structure FT (w:aw)(b:aO)(l:List Nat)(W:aw):Prop where
 src:dz W w.heap.size 24 b
 res:Nf W (w.heap.size+1) [0,0,0,0,0]
 now:Nf W (w.heap.size+1+1) l
 aY:Below w.heap.size w W
theorem FT.set {w W:aw}{b:aO}{l:List Nat}(t:FT w b l W)(i x:Nat):FT w b (l.set i x) (W.setCell ⟨w.heap.size+1+1,i,none⟩ (nf x)):=
 ⟨t.src.other (by omega) i _,t.res.other (by omega) i _,t.now.set i x,t.aY.setCell (p:=⟨w.heap.size+1+1,i,none⟩) (by show _≤w.heap.size+1+1;omega) _⟩
theorem FT.new (w:aw)(b:aO):FT w b [0,0,0,0,0] (((w.alloc (.cells (b.map bv).toArray 24)).alloc (.cells #[.int .u64 0,.int .u64 0,.int .u64 0,.int .u64 0,.int .u64 0] 82)).alloc (.cells #[.int .u64 0,.int .u64 0,.int .u64 0,.int .u64 0,.int .u64 0] 82)):=by
 have b1:Below (w.alloc (.cells (b.map bv).toArray 24)).heap.size (w.alloc (.cells (b.map bv).toArray 24)) ((w.alloc (.cells (b.map bv).toArray 24)).alloc (.cells #[.int .u64 0,.int .u64 0,.int .u64 0,.int .u64 0,.int .u64 0] 82)):=eF;have b2:=b1.alloc (by simp) (.cells #[.int .u64 0,.int .u64 0,.int .u64 0,.int .u64 0,.int .u64 0] 82);have h1:Nf ((w.alloc (.cells (b.map bv).toArray 24)).alloc (.cells #[.int .u64 0,.int .u64 0,.int .u64 0,.int .u64 0,.int .u64 0] 82)) (w.heap.size+1) [0,0,0,0,0]:=by have:=eC (w.alloc (.cells (b.map bv).toArray 24)) (.cells #[.int .u64 0,.int .u64 0,.int .u64 0,.int .u64 0,.int .u64 0] 82);rw[fx] at this;exact this
 refine⟨(dz.new w _ b).later b2,h1.alloc _,?_,?_⟩
 ·have:=eC ((w.alloc (.cells (b.map bv).toArray 24)).alloc (.cells #[.int .u64 0,.int .u64 0,.int .u64 0,.int .u64 0,.int .u64 0] 82)) (.cells #[.int .u64 0,.int .u64 0,.int .u64 0,.int .u64 0,.int .u64 0] 82);rw[fx,fx] at this;exact this
 ·exact(eF.alloc (by simp) _).alloc (by simp<;>omega) _
theorem Rl (b:aO)(w:aw)(hb:b.length=32):
  Calls prog 44 #[.agg (b.map bv).toArray] w λe w'=>∃cs,e= .returned (.agg cs.toArray)∧cO cs (fc b % 2^255 % bJ)∧Below w.heap.size w w':=by
 have HV:ae (cO ((NL (fc b) 5).map nf) (fc b % 2^255 % bJ)):=⟨_,rfl,YS _,by rw[YT]⟩
 go_enter func44,ntmps44
 go_wp2
 refine bY (P:=Code.wp prog _ _ _) (R:=λW=>ae (FT w b [0,0,0,0,0] W)) _ (FT.new w b) ?_;intro W0 ny
 go_loopw [8] (λi wr=>∃k:Nat,k≤5∧i= .int .i64 k∧ae (FT w b (NL (fc b) k) wr)) (λi _=>5-(intOf i).toNat)
 case atStart=>exact⟨0,by omega,rfl,ny⟩
 case round=>
  clear ny;obtain⟨k,hk,rfl,hN⟩:=hrel
  by_cases dN:k<5
  ·have sM:(k:Int)<5:=by omega
   obtain⟨p,hp⟩:=aW (k*51);obtain⟨u,hu⟩:=aW (p/8);obtain⟨q,hq⟩:=aW (min u 24);obtain⟨q8,U7⟩:=aW (8*q);obtain⟨s,hs⟩:=aW (p-q8);have ig:=ac3 b k q s dN (by rw[hp,hu,hq]) (by rw[hp,U7,hs]);have e1:(k:Int)*51=(p:Int):=by omega
   have e2:(p:Int).tdiv 8=(u:Int):=by rw[Int.tdiv_eq_ediv_of_nonneg (by omega)];omega
   have Sl:(p:Int)/8=(u:Int):=by omega
   have Q8:s<13∧q8≤p:=by
    have:k=0∨k=1∨k=2∨k=3∨k=4:=by omega
    rcases this with rfl|rfl|rfl|rfl|rfl<;>omega
   obtain⟨Q8,hqp⟩:=Q8;have e5:(p:Int)-(q8:Int)=(s:Int):=by omega
   obtain⟨cc,fr⟩:=hN.out.now.word k (by rw[yB];omega);have HB:ae (bj wr (some ⟨w.heap.size,0,none⟩) 32 b):=hN.out.src.nw 32 hb;have HN:ae (FT w b (NL (fc b) k) wr):=hN;have hpb:p<300:=by omega
   have hub:u<300:=by omega
   have atv:q8<300:=by omega
   by_cases h24:24<u
   ·have amr:24<(u:Int):=by omega
    obtain rfl:q=24:=by omega
    obtain rfl:q8=192:=by omega
    have e4:(p:Int)-192=(s:Int):=by omega
    clear hN hp hu hq U7 hs e5
    go_wp2_with fail
    refine(ue w.heap.size 0 32 32 24 8 false b wr (by unfold maxLen;omega) (by omega) HB.o (by omega) (by omega) (by omega)).mono ?_;rintro e w' ⟨rfl,rfl⟩;obtain⟨v,hv⟩:=aW (sW b false 24 8);rw[hv] at ig⊢;have Sn:v<18446744073709551616:=by rw[←hv,qs];exact tV (Nat.mod_lt _ (by decide)) (by decide)
    have E1:ae ((v:Int)/2^s=((v/2^s:Nat):Int)):=by show _=_;simp
    have So:v/2^s<18446744073709551616:=Nat.lt_of_le_of_lt (Nat.div_le_self _ _) Sn;have E2:ae (bits .and .u64 ((v/2^s:Nat):Int) 2251799813685247=((v/2^s % 2251799813685248:Nat):Int)):=Px _ So;have yR:ae (FT w b (NL (fc b) (k+1)) (w'.setCell ⟨w.heap.size+1+1,k,none⟩ (.int .u64 ((v/2^s % 2251799813685248:Nat):Int)))):=by rw[NL,←ig];exact HN.o.set k _
    clear HN So ig
    go_wp2
    rw[E1.out,E2.out];exact⟨⟨k+1,by omega,by go_num,yR⟩,by simp[intOf];omega⟩
   ·have amr:¬24<(u:Int):=by omega
    obtain rfl:u=q:=by omega
    have e4:8*(u:Int)=(q8:Int):=by omega
    clear hN hp hu hq U7 hs
    go_wp2_with fail
    refine(ue w.heap.size 0 32 32 u 8 false b wr (by unfold maxLen;omega) (by omega) HB.o (by omega) (by omega) (by omega)).mono ?_;rintro e w' ⟨rfl,rfl⟩;obtain⟨v,hv⟩:=aW (sW b false u 8);rw[hv] at ig⊢;have Sn:v<18446744073709551616:=by rw[←hv,qs];exact tV (Nat.mod_lt _ (by decide)) (by decide)
    have E1:ae ((v:Int)/2^s=((v/2^s:Nat):Int)):=by show _=_;simp
    have So:v/2^s<18446744073709551616:=Nat.lt_of_le_of_lt (Nat.div_le_self _ _) Sn;have E2:ae (bits .and .u64 ((v/2^s:Nat):Int) 2251799813685247=((v/2^s % 2251799813685248:Nat):Int)):=Px _ So;have yR:ae (FT w b (NL (fc b) (k+1)) (w'.setCell ⟨w.heap.size+1+1,k,none⟩ (.int .u64 ((v/2^s % 2251799813685248:Nat):Int)))):=by rw[NL,←ig];exact HN.o.set k _
    clear HN So ig
    go_wp2
    rw[E1.out,E2.out];exact⟨⟨k+1,by omega,by go_num,yR⟩,by simp[intOf];omega⟩
  ·have ek:k=5:=by omega
   subst ek;have G':¬((5:Nat):Int)<5:=by omega
   obtain⟨M,hM⟩:=aW (NL (fc b) 5);have vh:M.length=5:=by rw[←hM,yB]
   rw[hM] at hN HV;have IM:ae ((prog.info? 82).map (·.size)=some (M.map nf).toArray.size):=jP M vh;have xA:=aL wr (w.heap.size+1) _ _ (M.map nf) hN.out.res (by simp[vh]) (eT M);have bh:=setRow_heap wr (w.heap.size+1) _ (M.map nf).toArray _ _ hN.out.res;have bR:ae (Below w.heap.size w (wr.setRow (w.heap.size+1) (M.map nf).toArray)):=below_setRow hN.out.aY (by omega) _;obtain⟨W4,fj⟩:=aW (wr.setRow (w.heap.size+1) (M.map nf).toArray);rw[fj] at xA bh bR;have cY:ae (W4.heap[w.heap.size+1]?=some (.cells (M.map nf).toArray 82 (0,0))):=bh;clear bh fj hM
   go_wp2_with (first|refine wpList_load_row rfl 82 _ rfl (w.heap.size+1+1) rfl 82 _ (0,0) _ hN.out.now underlying82 rfl IM.out ?_)
   (try simp only[nu,Exit.then])
   refine bodyPost_ret (results_cell_row rfl _ _ (w.heap.size+1) 82 _ (0,0) _ rfl cY.o underlying82 rfl IM.out) rfl ?_;exact⟨M.map nf,rfl,HV.o,bR.o⟩
theorem yC (n:Nat)(w:aw)(hn:n<4294967296):
  Calls prog 45 #[.int .u32 (n:Int)] w λe w'=>∃cs,e= .returned (.agg cs.toArray)∧cO cs n∧Below w.heap.size w w':=by
 have HV:ae (cO ([n,0,0,0,0].map nf) n):=⟨_,rfl,⟨n,0,0,0,0,rfl,by omega,by decide,by decide,by decide,by decide⟩,by simp only[fy,Nat.mul_zero,Nat.add_zero];exact Nat.mod_eq_of_lt (Nat.lt_trans hn (by decide))⟩
 have IM:ae ((prog.info? 82).map (·.size)=some ([n,0,0,0,0].map nf).toArray.size):=jP _ rfl;have e1:IntKind.u64.wrap (n:Int)=(n:Int):=by rw[IntKind.wrap_u64];omega
 have xA:=fi w 82 ([n,0,0,0,0].map nf) 5 rfl (by kernel_rfl) (eT _);have HP:ae ((w.alloc (.cells ([n,0,0,0,0].map nf).toArray 82)).heap[w.heap.size]?=some (.cells ([n,0,0,0,0].map nf).toArray 82 (0,0))):=eC w _;have bR:ae (Below w.heap.size w (w.alloc (.cells ([n,0,0,0,0].map nf).toArray 82))):=eF;simp only[List.map_cons,List.map_nil,nf] at xA
 go_enter func45,ntmps45
 go_wp2
 (try simp only[nu,Exit.then])
 refine bodyPost_ret (results_cell_row rfl _ _ w.heap.size 82 _ (0,0) _ rfl HP.o underlying82 rfl IM.out) rfl ?_;exact⟨_,rfl,HV.o,bR.o⟩
theorem U8 (n:Nat)(h:n<18446744073709551616):bits .and .u64 (n:Int) 4294967295=((n % 4294967296:Nat):Int):=by
 have e:(BitVec.ofInt 64 (n:Int)&&&BitVec.ofInt 64 4294967295).toNat=n % 4294967296:=by
  rw[BitVec.toNat_and,BitVec.toNat_ofInt];have h7:(BitVec.ofInt 64 4294967295).toNat=2^32-1:=by decide
  rw[h7,Nat.and_two_pow_sub_one_eq_mod];omega
 show IntKind.u64.wrap ((BitVec.ofInt 64 (n:Int)&&&BitVec.ofInt 64 4294967295).toNat:Int)=_;rw[e,IntKind.wrap_u64];omega
theorem xk (a b:Nat)(ha:a<4294967296)(hb:b<4294967296):a*b≤18446744065119617025:=
 Nat.mul_le_mul (Nat.le_of_lt_succ ha) (Nat.le_of_lt_succ hb)
theorem NO (x1 x0 y1 y0:Nat):(x1*4294967296+x0)*(y1*4294967296+y0)=x1*y1*18446744073709551616+(x1*y0+x0*y1)*4294967296+x0*y0:=by grind
theorem NP (x y:Nat)(w:aw)(hx:x<18446744073709551616)(hy:y<18446744073709551616):
  Calls prog 98 #[.int .u64 (x:Int),.int .u64 (y:Int)] w λe w'=>e= .returned (.tuple #[.int .u64 ((x*y/18446744073709551616:Nat):Int),.int .u64 ((x*y % 18446744073709551616:Nat):Int)])∧w'=w:=by
 obtain⟨x0,hx0⟩:=aW (x % 4294967296);obtain⟨x1,rm⟩:=aW (x/4294967296);obtain⟨y0,hy0⟩:=aW (y % 4294967296);obtain⟨y1,Hh⟩:=aW (y/4294967296);have hsp:=NO x1 x0 y1 y0;rw[show x1*4294967296+x0=x by omega,show y1*4294967296+y0=y by omega] at hsp;have bA:=xk x1 y1 (by omega) (by omega);have bB:=xk x1 y0 (by omega) (by omega);have bC:=xk x0 y0 (by omega) (by omega);have bD:=xk x0 y1 (by omega) (by omega);have ax:=U8 x hx;have ay:=U8 y hy;rw[hx0] at ax;rw[hy0] at ay;have sx:(x:Int)/4294967296=(x1:Int):=by omega
 have sy:(y:Int)/4294967296=(y1:Int):=by omega
 obtain⟨A,hA⟩:=aW (x1*y1);obtain⟨B,hB⟩:=aW (x1*y0);obtain⟨C,hC⟩:=aW (x0*y0);obtain⟨D,hD⟩:=aW (x0*y1);obtain⟨p,hp⟩:=aW (x*y);have iA:(x1:Int)*(y1:Int)=(A:Int):=by rw[←hA];simp
 have iB:(x1:Int)*(y0:Int)=(B:Int):=by rw[←hB];simp
 have iC:(x0:Int)*(y0:Int)=(C:Int):=by rw[←hC];simp
 have iD:(x0:Int)*(y1:Int)=(D:Int):=by rw[←hD];simp
 have ip:(x:Int)*(y:Int)=(p:Int):=by rw[←hp];simp
 rw[hA,hB,hC,hD,hp] at hsp;rw[hA] at bA;rw[hB] at bB;rw[hC] at bC;rw[hD] at bD;rw[hp];obtain⟨C1,hC1⟩:=aW (C/4294967296);have iC1:(C:Int)/4294967296=(C1:Int):=by omega
 obtain⟨T,hT⟩:=aW (B+C1);have iT:(B:Int)+(C1:Int)=(T:Int):=by omega
 have bT:T<18446744073709551616:=by omega
 have aT:=U8 T bT;obtain⟨T0,Hr⟩:=aW (T % 4294967296);rw[Hr] at aT;obtain⟨T1,QP⟩:=aW (T/4294967296);have iT1:(T:Int)/4294967296=(T1:Int):=by omega
 obtain⟨U,hU⟩:=aW (T0+D);have iU:(T0:Int)+(D:Int)=(U:Int):=by omega
 have bU:U<18446744073709551616:=by omega
 obtain⟨U1,hU1⟩:=aW (U/4294967296);have iU1:(U:Int)/4294967296=(U1:Int):=by omega
 obtain⟨V,hV⟩:=aW (A+T1);have iV:(A:Int)+(T1:Int)=(V:Int):=by omega
 have bV:V<18446744073709551616:=by omega
 obtain⟨H,hH⟩:=aW (V+U1);have iH:(V:Int)+(U1:Int)=(H:Int):=by omega
 have bH:H<18446744073709551616:=by omega
 have RH:ae (p/18446744073709551616=H):=by show _=_;omega
 have RL:ae (IntKind.u64.wrap (p:Int)=((p % 18446744073709551616:Nat):Int)):=by show _=_;rw[IntKind.wrap_u64];omega
 have bA':A<18446744073709551616:=by omega
 have bB':B<18446744073709551616:=by omega
 have bC':C<18446744073709551616:=by omega
 have bD':D<18446744073709551616:=by omega
 clear hx0 rm hy0 Hh hsp bA bB bC bD hA hB hC hD hp hC1 hT Hr QP hU hU1 hV hH
 go_enter func98,ntmps98
 go_wp2
 go_ret2
 refine⟨?_,rfl⟩;rw[RH.out,RL.out];rfl
theorem ac9 (x y c:Int)(hx:0≤x)(hy:0≤y)(kt:0≤c)(hc:c≤1)(w:aw):(callFunc 99 #[.int .u64 x,.int .u64 y,.int .u64 c]).run prog w=
  .ok (.value (.tuple #[.int .u64 ((x+y+c) % 18446744073709551616),.int .u64 ((x+y+c)/18446744073709551616)])) w:=by
 rw[run_callFunc_extern func99 (by kernel_rfl) (by kernel_rfl) (by kernel_rfl) (e:=add64Entry) (by kernel_rfl),run_add64 x y c hx hy kt hc];rfl
theorem Ef (x y c s o:Nat)(hc:c≤1)(hs:(x+y+c) % 18446744073709551616=s)(ho:(x+y+c)/18446744073709551616=o)(w:aw):(callFunc 99 #[.int .u64 (x:Int),.int .u64 (y:Int),.int .u64 (c:Int)]).run prog w=
  .ok (.value (.tuple #[.int .u64 (s:Int),.int .u64 (o:Int)])) w:=by
 have e1:((x:Int)+(y:Int)+(c:Int)) % 18446744073709551616=(s:Int):=by omega
 have e2:((x:Int)+(y:Int)+(c:Int))/18446744073709551616=(o:Int):=by omega
 rw[ac9 _ _ _ (by omega) (by omega) (by omega) (by omega),e1,e2]
theorem Gt (h l a b:Nat)(w:aw)(hh:h<18446744073709551616)(hl:l<18446744073709551616)(ha:a<18446744073709551616)(hb:b<18446744073709551616)(T:Nat)(hT:h*18446744073709551616+l+a*b=T)(sS:T<340282366920938463463374607431768211456):
  Calls prog 72 #[.int .u64 (h:Int),.int .u64 (l:Int),.int .u64 (a:Int),.int .u64 (b:Int)] w λe w'=>e= .returned (.tuple #[.int .u64 ((T/18446744073709551616:Nat):Int),.int .u64 ((T % 18446744073709551616:Nat):Int)])∧w'=w:=by
 obtain⟨p,hp⟩:=aW (a*b);have HM:ae (∀w,Calls prog 98 #[.int .u64 (a:Int),.int .u64 (b:Int)] w λe w'=>e= .returned (.tuple #[.int .u64 ((p/18446744073709551616:Nat):Int),.int .u64 ((p % 18446744073709551616:Nat):Int)])∧w'=w):=λw=>by have:=NP a b w ha hb;rw[hp] at this;exact this
 rw[hp] at hT;obtain⟨ph,hph⟩:=aW (p/18446744073709551616);obtain⟨pl,tN⟩:=aW (p % 18446744073709551616);rw[hph,tN] at HM;obtain⟨s,hs⟩:=aW (T % 18446744073709551616);obtain⟨o,ho⟩:=aW ((l+pl)/18446744073709551616);obtain⟨t,ht⟩:=aW (T/18446744073709551616);have ah3:pl<18446744073709551616:=by omega
 have xV:o≤1:=by omega
 have A1:∀w',(callFunc 99 #[.int .u64 (l:Int),.int .u64 (pl:Int),.int .u64 0]).run prog w'= .ok (.value (.tuple #[.int .u64 (s:Int),.int .u64 (o:Int)])) w':=Ef l pl 0 s o (by omega) (by omega) (by omega);have A2:∀w',(callFunc 99 #[.int .u64 (h:Int),.int .u64 (ph:Int),.int .u64 (o:Int)]).run prog w'= .ok (.value (.tuple #[.int .u64 (t:Int),.int .u64 ((0:Nat):Int)])) w':=Ef h ph o t 0 xV (by omega) (by omega);rw[hs,ht];clear hs ht ho hT sS hp hph tN xV
 go_enter func72,ntmps72
 go_wp2_with fail
 refine(HM.o w).mono ?_;rintro e w' ⟨rfl,rfl⟩
 go_wp2
 go_ret2
 exact⟨rfl,rfl⟩
structure F4 (w:aw)(x y l:List Nat)(W:aw):Prop where
 x:Nf W w.heap.size x
 y:Nf W (w.heap.size+1) y
 res:Nf W (w.heap.size+1+1) [0,0,0,0,0]
 out:Nf W (w.heap.size+1+1+1) l
 aY:Below w.heap.size w W
theorem F4.new (w:aw)(x y:List Nat):F4 w x y [0,0,0,0,0] ((((w.alloc (.cells (x.map nf).toArray 82)).alloc (.cells (y.map nf).toArray 82)).alloc (.cells #[.int .u64 0,.int .u64 0,.int .u64 0,.int .u64 0,.int .u64 0] 82)).alloc (.cells #[.int .u64 0,.int .u64 0,.int .u64 0,.int .u64 0,.int .u64 0] 82)):=by have h0:=F3.new w x y;have h1:=eC (((w.alloc (.cells (x.map nf).toArray 82)).alloc (.cells (y.map nf).toArray 82)).alloc (.cells #[.int .u64 0,.int .u64 0,.int .u64 0,.int .u64 0,.int .u64 0] 82)) (.cells #[.int .u64 0,.int .u64 0,.int .u64 0,.int .u64 0,.int .u64 0] 82);rw[fx,fx,fx] at h1;exact⟨h0.now.alloc _,h0.Pa.alloc _,h0.res.alloc _,h1,h0.aY.alloc (by simp<;>omega) _⟩
theorem F4.set {w W:aw}{x y l:List Nat}(t:F4 w x y l W)(i v:Nat):F4 w x y (l.set i v) (W.setCell ⟨w.heap.size+1+1+1,i,none⟩ (nf v)):=
 ⟨t.x.other (by omega) i _,t.y.other (by omega) i _,t.res.other (by omega) i _,t.out.set i v,t.aY.setCell (p:=⟨w.heap.size+1+1+1,i,none⟩) (by show _≤w.heap.size+1+1+1;omega) _⟩
theorem F4.later {w W W':aw}{x y l:List Nat}(t:F4 w x y l W)(hb:Below W.heap.size W W'):F4 w x y l W':=
 ⟨t.x.later hb,t.y.later hb,t.res.later hb,t.out.later hb,t.aY.trans (hb.mono t.aY.size)⟩
theorem ac' (l:List Nat)(hl:l.length=5):(prog.info? 80).map (·.size)=some (l.map nf).toArray.size:=by
 have e1:(prog.info? 80).map (·.size)=some 5:=by kernel_rfl
 rw[e1];simp[hl]
theorem U9 (n:List Nat)(i:Nat)(hi:i<n.length):(n.map nf).toArray[i]?=some (.int .u64 (cf n i:Int)):=by rw[jk n i hi];simp[hi,nf]
theorem Ih (w:aw)(n:List Nat)(i:Nat)(hn:n.length=5)(hi:i<5):(Instr.index 80 (.agg (n.map nf).toArray) (.int .i64 (i:Int))).run prog w= .ok (.int .u64 (cf n i:Int)) w:=by
 have hu:prog.underlying 80=some (.array 5 40):=underlying80;have he:prog.plainKey 40=true:=by kernel_rfl
 have hc:prog.cellsOf 40=1:=by kernel_rfl
 have p1:=run_part_plain (P:=prog) w he (xs:=(n.map nf).toArray) (off:=i*1) (v:=.int .u64 (cf n i:Int)) (by rw[Nat.mul_one];exact U9 n i (by omega));rw[Nat.mul_one] at p1;simp[Instr.index,asIntOf,run_underlying hu,hi,go_sem];rw[List.getElem?_eq_getElem (by omega),jk n i (by omega)];rfl
theorem Le (T:Nat):T/18446744073709551616*18446744073709551616+T % 18446744073709551616=T:=by omega
theorem Eg (x y m:Nat)(z:Int)(hz:z=((y*2^m:Nat):Int))(hx:x<2^m)(hy:x+y*2^m<18446744073709551616):bits .or .u64 (x:Int) z=((x+y*2^m:Nat):Int):=by rw[hz,CC x (y*2^m) (by omega) (by omega),Nat.or_comm,CB y x m hx,Nat.add_comm]
theorem YV (H L T:Nat)(hT:H*18446744073709551616+L=T)(hL:L<18446744073709551616)(sS:T<649037107316853453566312041152512):bits .or .u64 ((L:Int)/2251799813685248) (IntKind.u64.wrap ((H:Int)*8192))=((T/2251799813685248:Nat):Int):=by
 have e1:(L:Int)/2251799813685248=((L/2251799813685248:Nat):Int):=by omega
 have e2:IntKind.u64.wrap ((H:Int)*8192)=((H*2^13:Nat):Int):=by rw[IntKind.wrap_u64];omega
 rw[e1,Eg (L/2251799813685248) H 13 _ e2 (by omega) (by omega)];omega
theorem ef (A B:bK)(vx vy:Nat)(w:aw)(hA:cO A vx)(hB:cO B vy):
  Calls prog 48 #[.agg A.toArray,.agg B.toArray] w λe w'=>∃cs,e= .returned (.agg cs.toArray)∧cO cs ((vx*vy) % bJ)∧Below w.heap.size w w':=by
 obtain⟨x,rfl,hEx,hx⟩:=hA.fR;obtain⟨y,rfl,hEy,hy⟩:=hB.fR;have Sg:=hEx.len;have hyl:=hEy.len;obtain⟨s1,s2,s3⟩:=NK x y hEx hEy;have HV:ae (cO ((lV (yA x y)).map nf) ((vx*vy) % bJ)):=⟨_,rfl,s3,by rw[zQ _ s1,U0 x y hEx hEy,hx,hy]⟩;have WR:ae (∀t∈yA x y,t<9223372036854775808):=s2;have HEx:ae (tB x):=hEx;have HEy:ae (tB y):=hEy;have IX:ae ((prog.info? 80).map (·.size)=some (x.map nf).toArray.size):=ac' x Sg;clear hA hB hx hy s1 s2 s3 hEx hEy
 go_enter func48,ntmps48
 go_wp2
 refine bY (P:=Code.wp prog _ _ _) (R:=λW=>ae (F4 w x y [0,0,0,0,0] W)) _ (F4.new w x y) ?_;intro W0 ny
 go_loopw [6,7,12] (λhi lo i wr=>∃k c:Nat,k≤5∧hi= .int .u64 0∧lo= .int .u64 (c:Int)∧i= .int .i64 k∧ae ((qz x y k).2=c)∧ae (F4 w x y (qz x y k).1 wr)) (λ_ _ i _=>5-(intOf i).toNat)
 case atStart=>exact⟨0,0,by omega,rfl,rfl,rfl,rfl,ny⟩
 case round=>
  clear ny;obtain⟨k,c,hk,rfl,rfl,rfl,hc,hN⟩:=hrel
  by_cases dN:k<5
  ·have sM:(k:Int)<5:=by omega
   have jc:c<288230376151711744:=by rw[←hc.out];exact tC x y HEx.o HEy.o k
   go_wp2_with (first|refine wpList_load_row rfl 80 _ rfl w.heap.size rfl 82 _ (0,0) _ hN.out.x underlying80 rfl IX.out ?_)
   have HO:ae (ov x y k c 0=c):=rfl
   go_loopw [6,7,17] (λhi lo i wr2=>∃j H L:Nat,j≤5∧hi= .int .u64 (H:Int)∧lo= .int .u64 (L:Int)∧i= .int .i64 j∧H*18446744073709551616+L<649037107316853453566312041152512∧L<18446744073709551616∧ae (H*18446744073709551616+L=ov x y k c j)∧wr2=wr) (λ_ _ i _=>5-(intOf i).toNat)
   case atStart=>exact⟨0,0,c,by omega,rfl,rfl,rfl,by omega,by omega,by rw[HO.o];show _=_;omega,rfl⟩
   case round=>
    clear HO;obtain⟨j,H,L,hj,rfl,rfl,rfl,hHL,hL,bh,rfl⟩:=hrel
    by_cases PW:j<5
    ·have tM:(j:Int)<5:=by omega
     obtain⟨a,ha⟩:=aW (cf x j);have TU:=Ih wr x j Sg PW;rw[ha] at TU;have Fm:a<2251799813685286:=by rw[←ha];exact dC x _ (by omega) HEx.o.lt j
     have xH:=NJ x y HEx.o HEy.o k (j+1) (by omega);rw[hc.out] at xH
     by_cases hjk:k<j
     ·obtain⟨z,hz⟩:=aW (j-k);obtain⟨q,hq⟩:=aW (k+5-j);obtain⟨b,hb⟩:=aW (cf y q);have BN:b<2251799813685286:=by rw[←hb];exact dC y _ (by omega) HEy.o.lt q
      obtain⟨cc,fr⟩:=hN.out.y.word q (by omega);rw[hb] at cc;obtain⟨d,hd⟩:=aW (19*a);have hdb:d<18446744073709551616:=by omega
      have ada:b<18446744073709551616:=by omega
      have uf:(k:Int)-(j:Int)= -(z:Int):=by omega
      have pH:-(z:Int)<0:=by omega
      have uZ:-(z:Int)+5=(q:Int):=by omega
      have hz3:z≤5:=by omega
      have hq5:(q:Int)<5:=by omega
      have Pg:(a:Int)*19=(d:Int):=by omega
      have ky:ov x y k c (j+1)=H*18446744073709551616+L+d*b:=by rw[ov,←bh.out,prT,if_pos hjk,ha,hq,hb,hd]
      rw[ky] at xH;obtain⟨T,hT⟩:=aW (H*18446744073709551616+L+d*b);rw[hT] at xH ky;have U':ae (ov x y k c (j+1)=T):=ky;have hH:H<18446744073709551616:=by omega
      have sS:T<340282366920938463463374607431768211456:=by omega
      have HF:ae (∀w,Calls prog 72 #[.int .u64 (H:Int),.int .u64 (L:Int),.int .u64 (d:Int),.int .u64 (b:Int)] w λe w'=>e= .returned (.tuple #[.int .u64 ((T/18446744073709551616:Nat):Int),.int .u64 ((T % 18446744073709551616:Nat):Int)])∧w'=w):=λw=>Gt H L d b w hH hL hdb ada T hT sS;have nU:=Le T;have L4:T % 18446744073709551616<18446744073709551616:=Nat.mod_lt _ (by decide);obtain⟨H',hH'⟩:=aW (T/18446744073709551616);obtain⟨L',Z8⟩:=aW (T % 18446744073709551616);rw[hH',Z8] at HF nU;rw[Z8] at L4;have yL:ae (H'*18446744073709551616+L'=T):=nU;have Qf:ae (H'*18446744073709551616+L'<649037107316853453566312041152512∧L'<18446744073709551616):=⟨by rw[nU];exact xH,L4⟩;clear hT sS hH' Z8 nU L4 xH;clear bh ky hz hq hb hd ha hc WR
      go_wp2_with fail
      refine(HF.o wr).mono ?_;rintro e w8 ⟨rfl,rfl⟩;clear TU HF
      go_wp2
      exact⟨⟨j+1,H',L',by omega,rfl,rfl,by go_num,Qf.o.1,Qf.o.2,yL.o.trans U'.o.symm,by first|rfl|trivial⟩,by simp[intOf];omega⟩
     ·obtain⟨q,hq⟩:=aW (k-j);obtain⟨b,hb⟩:=aW (cf y q);have BN:b<2251799813685286:=by rw[←hb];exact dC y _ (by omega) HEy.o.lt q
      obtain⟨cc,fr⟩:=hN.out.y.word q (by omega);rw[hb] at cc;have ah8:a<18446744073709551616:=by omega
      have ada:b<18446744073709551616:=by omega
      have uf:(k:Int)-(j:Int)=(q:Int):=by omega
      have pH:¬(q:Int)<0:=by omega
      have hq5:(q:Int)<5:=by omega
      have ky:ov x y k c (j+1)=H*18446744073709551616+L+a*b:=by rw[ov,←bh.out,prT,if_neg hjk,ha,hq,hb]
      rw[ky] at xH;obtain⟨T,hT⟩:=aW (H*18446744073709551616+L+a*b);rw[hT] at xH ky;have U':ae (ov x y k c (j+1)=T):=ky;have hH:H<18446744073709551616:=by omega
      have sS:T<340282366920938463463374607431768211456:=by omega
      have HF:ae (∀w,Calls prog 72 #[.int .u64 (H:Int),.int .u64 (L:Int),.int .u64 (a:Int),.int .u64 (b:Int)] w λe w'=>e= .returned (.tuple #[.int .u64 ((T/18446744073709551616:Nat):Int),.int .u64 ((T % 18446744073709551616:Nat):Int)])∧w'=w):=λw=>Gt H L a b w hH hL ah8 ada T hT sS;have nU:=Le T;have L4:T % 18446744073709551616<18446744073709551616:=Nat.mod_lt _ (by decide);obtain⟨H',hH'⟩:=aW (T/18446744073709551616);obtain⟨L',Z8⟩:=aW (T % 18446744073709551616);rw[hH',Z8] at HF nU;rw[Z8] at L4;have yL:ae (H'*18446744073709551616+L'=T):=nU;have Qf:ae (H'*18446744073709551616+L'<649037107316853453566312041152512∧L'<18446744073709551616):=⟨by rw[nU];exact xH,L4⟩;clear hT sS hH' Z8 nU L4 xH;clear bh ky hq hb ha hc WR
      go_wp2_with fail
      refine(HF.o wr).mono ?_;rintro e w8 ⟨rfl,rfl⟩;clear TU HF
      go_wp2
      exact⟨⟨j+1,H',L',by omega,rfl,rfl,by go_num,Qf.o.1,Qf.o.2,yL.o.trans U'.o.symm,by first|rfl|trivial⟩,by simp[intOf];omega⟩
    ·have ej:j=5:=by omega
     subst ej;have hjr:¬((5:Nat):Int)<5:=by omega
     obtain⟨T,hT⟩:=aW (H*18446744073709551616+L);have hrT:ov x y k c 5=T:=by rw[←bh.out,hT]
     rw[hT] at hHL;have EA:ae (bits .and .u64 (L:Int) 2251799813685247=((T % 2251799813685248:Nat):Int)):=by show _=_;rw[Px L hL];omega
     have EO:ae (bits .or .u64 ((L:Int)/2251799813685248) (IntKind.u64.wrap ((H:Int)*8192))=((T/2251799813685248:Nat):Int)):=YV H L T hT hL hHL;have jb:=hN.out.set k (T % 2251799813685248);have yR:ae (F4 w x y (qz x y (k+1)).1 (wr.setCell ⟨w.heap.size+1+1+1,k,none⟩ (.int .u64 ((T % 2251799813685248:Nat):Int)))):=by rw[qz,hc.out,hrT];exact jb
     have B5:ae ((qz x y (k+1)).2=T/2251799813685248):=by rw[qz,hc.out,hrT];rfl
     obtain⟨cc,fr⟩:=hN.out.out.word k (by rw[wL];omega);clear hN jb bh hrT hT hc WR
     go_wp2
     rw[EA.out,EO.out];exact⟨⟨k+1,T/2251799813685248,by omega,rfl,rfl,by go_num,B5,yR⟩,by simp[intOf];omega⟩
  ·have ek:k=5:=by omega
   subst ek;have G':¬((5:Nat):Int)<5:=by omega
   obtain⟨m,hm⟩:=aW ((qz x y 5).1);have rP:m.length=5:=by rw[←hm,wL]
   have rf:c<288230376151711744:=by rw[←hc.out];exact tC x y HEx.o HEy.o 5
   obtain⟨a,ha⟩:=aW (cf m 0);have vJ:yA x y=m.set 0 (a+19*c):=by rw[yA,hm,hc.out,ha]
   have BU:=WR.o;have Fm:a+19*c<9223372036854775808:=BU _ (by rw[vJ];exact List.mem_set (by omega) _);rw[hm] at hN;obtain⟨cc,fr⟩:=hN.out.out.word 0 (by omega);rw[ha] at cc;have jb:=hN.out.set 0 (a+19*c);rw[←vJ] at jb;obtain⟨s,hs⟩:=aW (yA x y);rw[hs] at jb BU HV;have Ae:s.length=5:=by rw[←hs,vJ,List.length_set,rP]
   have e1:IntKind.u64.wrap ((a:Int)+19*(c:Int))=((a+19*c:Nat):Int):=by rw[IntKind.wrap_u64];omega
   obtain⟨W1,fg⟩:=aW (wr.setCell ⟨w.heap.size+1+1+1,0,none⟩ (.int .u64 (IntKind.u64.wrap ((a:Int)+19*(c:Int)))));have yR:ae (F4 w x y s W1):=by rw[←fg,e1];exact jb
   have fU:ae (wr.setCell ⟨w.heap.size+1+1+1,0,none⟩ (.int .u64 (IntKind.u64.wrap ((a:Int)+19*(c:Int))))=W1):=fg;have IS:ae ((prog.info? 82).map (·.size)=some (s.map nf).toArray.size):=jP s Ae;have HSb:ae (∀t∈s,t<9223372036854775808):=BU;clear hN jb hm ha vJ BU Fm hs e1 fg hc WR
   go_wp2_with (first|(rw[fU.o];refine wpList_load_row rfl 82 _ rfl (w.heap.size+1+1+1) rfl 82 _ (0,0) _ yR.o.out underlying82 rfl IS.out ?_)|fail)
   refine(uL s W1 Ae HSb.o).mono ?_;rintro e w8 ⟨rfl,i9⟩;have Cq:=yR.o.later i9;obtain⟨c',kZ⟩:=aW (lV s);have jc:c'.length=5:=by rw[←kZ,mW,Ae]
   rw[kZ] at HV⊢;have IC:ae ((prog.info? 82).map (·.size)=some (c'.map nf).toArray.size):=jP c' jc;have xA:=aL w8 (w.heap.size+1+1) _ _ (c'.map nf) Cq.res (by simp[jc]) (eT c');have bh:=setRow_heap w8 (w.heap.size+1+1) _ (c'.map nf).toArray _ _ Cq.res;have bR:ae (Below w.heap.size w (w8.setRow (w.heap.size+1+1) (c'.map nf).toArray)):=below_setRow Cq.aY (by omega) _;obtain⟨W4,fj⟩:=aW (w8.setRow (w.heap.size+1+1) (c'.map nf).toArray);rw[fj] at xA bh bR;have cY:ae (W4.heap[w.heap.size+1+1]?=some (.cells (c'.map nf).toArray 82 (0,0))):=bh;clear bh fj Cq yR i9 kZ
   go_wp2
   (try simp only[nu,Exit.then])
   refine bodyPost_ret (results_cell_row rfl _ _ (w.heap.size+1+1) 82 _ (0,0) _ rfl cY.o underlying82 rfl IC.out) rfl ?_;exact⟨c'.map nf,rfl,HV.o,bR.o⟩
def D5 (w:aw)(g:Nat)(l:List Nat):Prop:=w.heap[g]?=some (.cells (l.map nf).toArray 80 (0,0))
theorem D5.lt {w:aw}{g:Nat}{l:List Nat}(h:D5 w g l):g<w.heap.size:=(gD.1 h).1
theorem D5.later {w w':aw}{g:Nat}{l:List Nat}(h:D5 w g l)(hb:Below w.heap.size w w'):D5 w' g l:=by unfold D5;rw[hb.block g h.lt];exact h
theorem D5.word {w:aw}{g:Nat}{l:List Nat}(h:D5 w g l)(i:Nat)(hi:i<l.length):w.cell? ⟨g,i,none⟩=some (.int .u64 (cf l i:Int)):=by rw[cell_of_row w g i _ _ (0,0) h,jk l i hi];simp[hi,nf]
theorem NQ (W:aw)(cs:Array Value)(h:cs.size=5):(Instr.field 82 (.agg cs) 0).run prog W= .ok (.agg cs) W:=by
 have hu:prog.underlying 80=some (.array 5 40):=underlying80;have hi:(prog.info? 80).map (·.size)=some 5:=by kernel_rfl
 have Tb:(isAgg 80).run prog W= .ok true W:=by unfold isAgg;rw[Sem.run_bind,run_underlying hu W];simp
 unfold Instr.field;rw[Sem.run_bind,run_underlying underlying82 W];simp[part,Sem.run_bind,Tb,asAgg,←h]
theorem NR {p:Prop}(h:p):ae p:=h
def uM:Array Value:=(cz 32 (Value.int .u8 0)).toArray
structure FY (w:aw)(g:Nat)(l:List Nat)(W:aw):Prop where
 res:W.heap[w.heap.size+1]?=some (.cells uM 24 (0,0))
 fR:D5 W g l
 aY:Below w.heap.size w W
theorem FY.later {w W W':aw}{g:Nat}{l:List Nat}(t:FY w g l W)(hb:Below W.heap.size W W'):FY w g l W':=
 ⟨by rw[hb.block _ (gD.1 t.res).1];exact t.res,t.fR.later hb,t.aY.trans (hb.mono t.aY.size)⟩
theorem Vd {W:aw}{b off n:Nat}{l:aO}(h:bj W (some ⟨b,off,none⟩) n l):∀j v,(l.map bv)[j]?=some v→W.cell? ⟨b,off+j,none⟩=some v:=by
 intro j v hv;have h1:=h.cells _ rfl j v hv;have Mf:(⟨b,off,none⟩:Addr).add j=⟨b,off+j,none⟩:=by unfold Addr.add;split<;>simp_all
 rw[Mf] at h1;exact h1
theorem YW (l:List Nat)(hl:l.length=5)(hb:∀x∈l,x<2251799813685248)(k:Nat)(hk:k<4)(a b s t:Nat)(ha:cf l k=a)(cU:cf l (k+1)=b)(hs:13*k=s)(ht:51-s=t):
  bits .or .u64 ((a:Int)/2^s) (IntKind.u64.wrap ((b:Int)*2^t))=((fy l/18446744073709551616^k % 18446744073709551616:Nat):Int):=by
 have h1:=U4 l hl hb k hk;rw[ha,cU,hs,ht] at h1;have h2:a<2251799813685248:=by rw[←ha];exact dC l _ (by decide) hb k
 have h3:b<2251799813685248:=by rw[←cU];exact dC l _ (by decide) hb (k+1)
 rw[←h1];have:k=0∨k=1∨k=2∨k=3:=by omega
 rcases this with rfl|rfl|rfl|rfl
 ·obtain rfl:s=0:=by omega
  obtain rfl:t=51:=by omega
  have e0:(a:Int)/2^0=((a/2^0:Nat):Int):=by simp
  rw[e0,Eg (a/2^0) (b % 8192) 51 _ (by rw[IntKind.wrap_u64];omega) (by omega) (by omega)];omega
 ·obtain rfl:s=13:=by omega
  obtain rfl:t=38:=by omega
  have e0:(a:Int)/2^13=((a/2^13:Nat):Int):=by simp
  rw[e0,Eg (a/2^13) (b % 67108864) 38 _ (by rw[IntKind.wrap_u64];omega) (by omega) (by omega)];omega
 ·obtain rfl:s=26:=by omega
  obtain rfl:t=25:=by omega
  have e0:(a:Int)/2^26=((a/2^26:Nat):Int):=by simp
  rw[e0,Eg (a/2^26) (b % 549755813888) 25 _ (by rw[IntKind.wrap_u64];omega) (by omega) (by omega)];omega
 ·obtain rfl:s=39:=by omega
  obtain rfl:t=12:=by omega
  have e0:(a:Int)/2^39=((a/2^39:Nat):Int):=by simp
  rw[e0,Eg (a/2^39) b 12 _ (by rw[IntKind.wrap_u64];omega) (by omega) (by omega)];omega
theorem NU (A:bK)(x:Nat)(w:aw)(hA:cO A x):
  Calls prog 50 #[.agg A.toArray] w λe w'=>e= .returned (.agg ((zA 32 x).map bv).toArray)∧Below w.heap.size w w':=by
 obtain⟨l,rfl,hE,hx⟩:=hA.fR;obtain⟨v1,v2,v3⟩:=UZ l hE;rw[hx] at v1;obtain⟨a0,a1,a2,a3,a4,hd⟩:=wu (Ed l) v2;rw[hd] at v1 v3;have hl:=hE.len;have IL:ae ((prog.info? 82).map (·.size)=some (l.map nf).toArray.size):=jP l hl;have HL:ae (∀w,Calls prog 75 #[.agg (l.map nf).toArray] w λe w'=>e= .returned (.agg #[.int .u64 (a0:Int),.int .u64 (a1:Int),.int .u64 (a2:Int),.int .u64 (a3:Int),.int .u64 (a4:Int)])∧Below w.heap.size w w'):=λw=>by have:=NN l w hE;rw[hd] at this;exact this
 have HV:ae (fy [a0,a1,a2,a3,a4]=x):=v1;have HB:ae (∀t∈[a0,a1,a2,a3,a4],t<2251799813685248):=v3;have E4:ae (Nf ((w.alloc (.cells (l.map nf).toArray 82)).alloc (.cells uM 24)) w.heap.size l):=Nf.alloc (eC w _) _;have HR0:ae (((w.alloc (.cells (l.map nf).toArray 82)).alloc (.cells uM 24)).heap[w.heap.size+1]?=some (.cells uM 24 (0,0))):=by have:=eC (w.alloc (.cells (l.map nf).toArray 82)) (.cells uM 24);rw[fx] at this;exact this
 have pX:ae (Below w.heap.size w ((w.alloc (.cells (l.map nf).toArray 82)).alloc (.cells uM 24))):=eF.alloc (by simp) _;clear hA hE hx v1 v2 v3 hd
 go_enter func50,ntmps50
 go_wp2_with (first|refine wpList_load_row rfl 82 _ rfl w.heap.size rfl 82 _ (0,0) _ E4.o underlying82 rfl IL.out ?_|fail)
 refine(HL.o _).mono ?_;rintro e W1 ⟨rfl,ck⟩;have hD:D5 (W1.alloc (.cells ([a0,a1,a2,a3,a4].map nf).toArray 80)) W1.heap.size [a0,a1,a2,a3,a4]:=eC W1 _;have hbx:=ck.alloc ck.size (.cells ([a0,a1,a2,a3,a4].map nf).toArray 80);have HY0:ae (FY w W1.heap.size [a0,a1,a2,a3,a4] (W1.alloc (.cells ([a0,a1,a2,a3,a4].map nf).toArray 80))):=
  ⟨by rw[hbx.block _ (by simp)];exact HR0.o,hD,pX.o.trans (hbx.mono pX.o.size)⟩
 have hfd:=NQ W1 #[.int .u64 (a0:Int),.int .u64 (a1:Int),.int .u64 (a2:Int),.int .u64 (a3:Int),.int .u64 (a4:Int)] rfl;clear hD hbx ck E4 HR0 pX HL
 go_wp2
 refine bY (P:=Code.wp prog _ _ _) (R:=λW=>ae (FY w W1.heap.size [a0,a1,a2,a3,a4] W)) _ HY0 ?_;clear HY0 hfd;intro W2 HY0;generalize W1.heap.size=gd at*
 have xU:ae (bj W2 none 0 (WQ x 0)):=⟨rfl,.inl rfl⟩
 go_loopw [4,10] (λo i wr=>∃(k n:Nat) (a:bW) (cap:Nat),k≤4∧8*k=n∧i= .int .i64 k∧o= .slice a n cap∧ae (bj wr a n (WQ x k))∧ae (FY w gd [a0,a1,a2,a3,a4] wr)) (λ_ i _=>4-(intOf i).toNat)
 case atStart=>exact⟨0,0,none,0,by omega,rfl,rfl,rfl,xU,HY0⟩
 case round=>
  clear HY0 xU;obtain⟨k,n,a,cap,hk,hn,rfl,rfl,Rm,HY⟩:=hrel
  by_cases dN:k<4
  ·have sM:(k:Int)<4:=by omega
   obtain⟨s,hs⟩:=aW (13*k);obtain⟨t,ht⟩:=aW (51-s);obtain⟨k1,WB⟩:=aW (k+1);obtain⟨u,hu⟩:=aW (cf [a0,a1,a2,a3,a4] k);obtain⟨v,hv⟩:=aW (cf [a0,a1,a2,a3,a4] k1);obtain⟨m,hm⟩:=aW (fy [a0,a1,a2,a3,a4]/18446744073709551616^k % 18446744073709551616);have EO0:=YW [a0,a1,a2,a3,a4] rfl HB.o k dN u v s t hu (by rw[WB];exact hv) hs ht;rw[hm] at EO0;have EO:ae _:=EO0;clear EO0;have HM:ae (WQ x (k+1)=WQ x k++im 8 m false):=by show _=_;rw[WQ,←HV.o,hm];rfl
   have HU:ae (∀w',Below wr.drew.heap.size wr.drew w'→w'.cell? ⟨gd,k,none⟩=some (.int .u64 (u:Int))):=λw' hw'=>by have:=((HY.o.later (W':=wr.drew) (bZ _ _).drew).later hw').fR.word k (by simp;omega);rw[hu] at this;exact this
   have JZ:ae (∀w',Below wr.drew.heap.size wr.drew w'→w'.cell? ⟨gd,k1,none⟩=some (.int .u64 (v:Int))):=λw' hw'=>by have:=((HY.o.later (W':=wr.drew) (bZ _ _).drew).later hw').fR.word k1 (by simp;omega);rw[hv] at this;exact this
   have e1:(k:Int)*13=(s:Int):=by omega
   have e2:IntKind.i64.wrap (51-(s:Int))=(t:Int):=by rw[IntKind.wrap_i64];omega
   have e3:IntKind.i64.wrap ((k:Int)+1)=(k1:Int):=by rw[IntKind.wrap_i64];omega
   have atB:(k1:Int)<5:=by omega
   have hk5:(k:Int)<5:=by omega
   have atC:t<64:=by omega
   have atE:s<64:=by omega
   obtain⟨W,kY⟩:=aW (wr.drew);have ij:ae (wr.drew=W):=kY;have HYd:=NR (HY.o.later (W':=W) (by rw[←kY];exact gl));have HBd:=NR (Rm.o.later (w':=W) (by rw[←kY];exact gl));rw[kY] at HU JZ;clear kY HY Rm hs ht hu hv hm
   go_wp2_with fail
   refine ah (G:=bM) (by kernel_rfl) bM.refl bM.trans (by kernel_rfl) [(0,true),(1,true),(2,true),(3,true),(4,true),(5,true),(6,true),(7,true),(8,true),(9,true),(10,true),(11,true),(12,true),(13,true),(14,false),(15,true)] rfl (by kernel_rfl) ?_;intro KK cA;rw[ij.o];clear ij
   iterate 3 (refine aa rfl (by rfl) (v:=?_) ?_ ?_;rotate_left;(intro w' hw';clear hw';go_simp;with_reducible rfl);go_simp)
   refine aa rfl (by rfl) (v:=?_) ?_ ?_;rotate_left;(intro w' hw';have cu:=HU.o w' hw';clear hw';go_simp;with_reducible rfl);go_simp
   iterate 5 (refine aa rfl (by rfl) (v:=?_) ?_ ?_;rotate_left;(intro w' hw';clear hw';go_simp;with_reducible rfl);go_simp)
   refine aa rfl (by rfl) (v:=?_) ?_ ?_;rotate_left;(intro w' hw';have cu:=JZ.o w' hw';clear hw';go_simp;with_reducible rfl);go_simp
   iterate 3 (refine aa rfl (by rfl) (v:=?_) ?_ ?_;rotate_left;(intro w' hw';clear hw';go_simp;with_reducible rfl);go_simp)
   refine aa rfl (by rfl) (v:=.int .u64 (m:Int)) (λw' hw'=>by clear hw';go_simp;rw[EO.out]) ?_;go_simp
   refine aU (f:=76) (args:=#[.slice a n cap,.int .i64 8,.int .u64 (m:Int),.bool false]) rfl (by rfl) (by go_simp) ?_;refine(ug a n cap 8 m false (WQ x k) W (by omega) HBd.o 8 (by decide)).mono ?_;rintro e w8 ⟨g,rfl,hg,i9,Bi⟩;refine⟨_,rfl,i9,?_⟩;have HB8:ae (bj w8 (some ⟨g,0,none⟩) (n+8) (WQ x (k+1))):=by rw[HM.o];exact Bi
   have HY8:=NR (HYd.o.later i9);clear i9 Bi HYd HBd;go_simp
   refine aa rfl (by rfl) (v:=?_) ?_ ?_;rotate_left;(intro w' hw';clear hw';go_simp;with_reducible rfl);go_simp;refine az cA ?_;clear cA
   go_wp2
   exact⟨⟨k+1,n+8,some ⟨g,0,none⟩,n+8,by omega,by omega,by go_num,rfl,HB8,HY8⟩,by simp[intOf];omega⟩
  ·have ek:k=4:=by omega
   subst ek;obtain rfl:n=32:=by omega
   have G':¬((4:Nat):Int)<4:=by omega
   rw[Pw] at Rm;obtain⟨b,off,rfl,_⟩:=Rm.o.at_ 0 (by omega);obtain⟨L,hL⟩:=aW (zA 32 x);have LX:L.length=32:=by rw[←hL,aaa]
   have amv:ae (bj wr (some ⟨b,off,none⟩) 32 L):=by rw[←hL];exact Rm.o
   have hI:ae ((prog.info? 24).map (·.size)=some (L.map bv).toArray.size):=cW (n:=32) (by kernel_rfl) L LX;have tq:ae ((prog.info? 24).map (·.size)=some (L.map bv).length):=by rw[List.length_map,LX];show _=_;kernel_rfl
   have eO:=aL wr (w.heap.size+1) _ _ (L.map bv) HY.o.res (by simp[LX,uM]) (bd L);have bh:=setRow_heap wr (w.heap.size+1) _ (L.map bv).toArray _ _ HY.o.res;have bR:ae (Below w.heap.size w (wr.setRow (w.heap.size+1) (L.map bv).toArray)):=below_setRow HY.o.aY (by omega) _;obtain⟨W4,fj⟩:=aW (wr.setRow (w.heap.size+1) (L.map bv).toArray);rw[fj] at eO bh bR;have cY:ae (W4.heap[w.heap.size+1]?=some (.cells (L.map bv).toArray 24 (0,0))):=bh;have HL:ae (zA 32 x=L):=hL;have hat:(Instr.arrayAt 24 (.slice (some ⟨b,off,none⟩) 32 cap)).run prog wr= .ok (.pointer (some ⟨b,off,none⟩)) wr:=by simp[Instr.arrayAt,run_underlying underlying24]
   clear bh fj hL Rm
   go_wp2_with (first|refine cD rfl 24 _ rfl b off rfl (L.map bv) _ (Vd amv.o) underlying24 rfl tq.out ?_)
   (try simp only[nu,Exit.then])
   refine bodyPost_ret (results_cell_row rfl _ _ (w.heap.size+1) 24 _ (0,0) _ rfl cY.o underlying24 rfl hI.out) rfl ?_;exact⟨by rw[HL.o],bR.o⟩
theorem fp (n:Nat)(x:Nat)(e e':Nat)(A:bK)(w:aw)(hn:n<1000)(hA:cO A (pw x e))(he:e*2^n=e'):
  Calls prog 74 #[.agg A.toArray,.int .i64 (n:Int)] w λr w'=>∃cs,r= .returned (.agg cs.toArray)∧cO cs (pw x e')∧Below w.heap.size w w':=by
 obtain⟨l,rfl,hE,hx⟩:=hA.fR;have E4:ae (FB w w.heap.size (w.heap.size+1) l ((w.alloc (.cells (l.map nf).toArray 82)).alloc (.cells #[.int .u64 0,.int .u64 0,.int .u64 0,.int .u64 0,.int .u64 0] 82))):=FB.QC w l;have Rn:ae (cO (l.map nf) (pw x (e*2^0))):=by rw[Nat.pow_zero,Nat.mul_one];exact hA
 have hl:=hE.len;have HE':ae (e*2^n=e'):=he;clear hE hx hA he
 go_enter func74,ntmps74
 go_wp2
 refine bY (P:=Code.wp prog _ _ _) (R:=λW=>ae (FB w w.heap.size (w.heap.size+1) l W)) _ E4 ?_;intro W0 ny;clear E4
 go_loopw [6] (λi wr=>∃(k:Nat) (m:List Nat),k≤n∧m.length=5∧i= .int .i64 k∧ae (cO (m.map nf) (pw x (e*2^k)))∧ae (FB w w.heap.size (w.heap.size+1) m wr)) (λi _=>n-(intOf i).toNat)
 case atStart=>exact⟨0,l,by omega,hl,rfl,Rn,ny⟩
 case round=>
  clear ny Rn hl;obtain⟨k,m,hk,rP,rfl,hE,hN⟩:=hrel;have IM:ae ((prog.info? 82).map (·.size)=some (m.map nf).toArray.size):=jP m rP
  by_cases dN:k<n
  ·have sM:(k:Int)<(n:Int):=by omega
   go_wp2_with (first|refine wpList_load_row rfl 82 _ rfl w.heap.size rfl 82 _ (0,0) _ hN.out.now underlying82 rfl IM.out ?_|fail)
   refine(ef (m.map nf) (m.map nf) _ _ wr hE.out hE.out).mono ?_;rintro r w8 ⟨cs,rfl,hc,i9⟩;rw[Rk,Nat.mul_assoc,←Nat.pow_succ] at hc;obtain⟨c,rfl,hEc,_⟩:=hc.fR;have jc:=hEc.len;have Cq:=hN.out.later i9;have xA:=aL w8 w.heap.size _ _ (c.map nf) Cq.now (by simp[jc,rP]) (eT c);have HN9:ae (FB w w.heap.size (w.heap.size+1) c (w8.setRow w.heap.size (c.map nf).toArray)):=Cq.put c;have HE9:ae (cO (c.map nf) (pw x (e*2^(k+1)))):=hc;obtain⟨W9,L6⟩:=aW (w8.setRow w.heap.size (c.map nf).toArray);rw[L6] at xA HN9;clear hc hEc Cq i9 hN hE L6
   go_wp2
   exact⟨⟨k+1,c,by omega,jc,by go_num,HE9,HN9⟩,by simp[intOf];omega⟩
  ·have ek:k=n:=by omega
   subst ek;have G':¬(k:Int)<(k:Int):=by omega
   rw[HE'.o] at hE;have eO:=aL wr (w.heap.size+1) _ _ (m.map nf) hN.out.res (by simp[rP]) (eT m);have bh:=setRow_heap wr (w.heap.size+1) _ (m.map nf).toArray _ _ hN.out.res;have bR:ae (Below w.heap.size w (wr.setRow (w.heap.size+1) (m.map nf).toArray)):=below_setRow hN.out.aY hN.out.br _;obtain⟨W4,fj⟩:=aW (wr.setRow (w.heap.size+1) (m.map nf).toArray);rw[fj] at eO bh bR;have cY:ae (W4.heap[w.heap.size+1]?=some (.cells (m.map nf).toArray 82 (0,0))):=bh;clear bh fj
   go_wp2_with (first|refine wpList_load_row rfl 82 _ rfl w.heap.size rfl 82 _ (0,0) _ hN.out.now underlying82 rfl IM.out ?_)
   (try simp only[nu,Exit.then])
   refine bodyPost_ret (results_cell_row rfl _ _ (w.heap.size+1) 82 _ (0,0) _ rfl cY.o underlying82 rfl IM.out) rfl ?_;exact⟨m.map nf,rfl,hE.out,bR.o⟩
theorem f9 {p:Prop}(h:p):ae p:=h
def wM (W:aw)(g:Nat)(vs:bK):Prop:=W.heap[g]?=some (.cells vs.toArray 82 (0,0))
theorem wM.lt {w:aw}{g:Nat}{l:bK}(h:wM w g l):g<w.heap.size:=(gD.1 h).1
theorem wM.later {w w':aw}{g:Nat}{l:bK}(h:wM w g l)(hb:Below w.heap.size w w'):wM w' g l:=by unfold wM;rw[hb.block g h.lt];exact h
theorem wM.below {B:Nat}{w w':aw}{g:Nat}{l:bK}(h:wM w g l)(hb:Below B w w')(hg:g<B):wM w' g l:=by unfold wM;rw[hb.block g hg];exact h
theorem wM.fF {w:aw}{g g':Nat}{l:bK}(h:wM w g l)(eL:g≠g')(cs:Array Value):wM (w.setRow g' cs) g l:=by unfold wM;rw[setRow_other _ _ _ _ eL];exact h
theorem dz.fF {w:aw}{g g':Nat}{t:TypeId}{l:aO}(h:dz w g t l)(eL:g≠g')(cs:Array Value):dz (w.setRow g' cs) g t l:=by unfold dz;rw[setRow_other _ _ _ _ eL];exact h
theorem qd:dX.length=5:=by decide
theorem wM.new (w:aw)(l:bK):wM (w.alloc (.cells l.toArray 82)) w.heap.size l:=eC w _
theorem bz {cs:bK}{x:Nat}(h:cO cs x):(prog.info? 82).map (·.size)=some cs.toArray.size:=by
 have e1:(prog.info? 82).map (·.size)=some 5:=by kernel_rfl
 rw[e1];simp[h.len]
theorem Gu (w:aw){cs:bK}{x:Nat}(h:cO cs x)(c:Array Value)(hc:c.size=5):
  (storeCells ⟨w.heap.size,0,none⟩ cs).run prog (w.alloc (.cells c 82))= .ok () (w.alloc (.cells cs.toArray 82)):=
 fi w 82 cs 5 h.len (by kernel_rfl) h.one c hc
theorem Eh:∀k,zA k 0=cz k 0
 |0=>rfl
 |k+1=>by rw[zA,Nat.zero_div,Eh k,List.replicate_succ];rfl
structure Vr (W:aw)(L:List (Nat×TypeId×bK)):Prop where
 cell:∀p∈L,W.heap[p.1]?=some (.cells p.2.2.toArray p.2.1 (0,0))
 nd:(L.map (·.1)).Nodup
theorem Vr.lt {W:aw}{L:List (Nat×TypeId×bK)}(h:Vr W L):∀p∈L,p.1<W.heap.size:=λp hp=>(gD.1 (h.cell p hp)).1
theorem Vr.later {W W':aw}{L:List (Nat×TypeId×bK)}(h:Vr W L)(hb:Below W.heap.size W W'):Vr W' L:=
 ⟨λp hp=>by rw[hb.block _ (h.lt p hp)];exact h.cell p hp,h.nd⟩
theorem Vr.add {W:aw}{L:List (Nat×TypeId×bK)}(h:Vr W L)(g:Nat)(t:TypeId)(c:bK)(hc:W.heap[g]?=some (.cells c.toArray t (0,0)))(hn:∀p∈L,p.1≠g):Vr W (L++[(g,t,c)]):=by
 refine⟨λp hp=>?_,?_⟩
 ·rcases List.mem_append.1 hp with h1|h1
  ·exact h.cell p h1
  ·rw[List.mem_singleton.1 h1];exact hc
 ·rw[List.map_append,List.nodup_append];refine⟨h.nd,by simp,?_⟩;intro x hx y hy;obtain⟨p,hp,rfl⟩:=List.mem_map.1 hx;simp only[List.map_cons,List.map_nil,List.mem_singleton] at hy;rw[hy];exact hn p hp
theorem Vr.put {W:aw}{L:List (Nat×TypeId×bK)}(h:Vr W L)(i:Nat)(g:Nat)(t:TypeId)(c c':bK)(hi:L[i]?=some (g,t,c)):Vr (W.setRow g c'.toArray) (L.set i (g,t,c')):=by
 have hil:i<L.length:=(List.getElem?_eq_some_iff.1 hi).1;have hgi:L[i]=(g,t,c):=(List.getElem?_eq_some_iff.1 hi).2;refine⟨λp hp=>?_,?_⟩
 ·obtain⟨k,hk,Ma⟩:=List.mem_iff_getElem.1 hp;rw[List.getElem_set] at Ma;split at Ma
  ·rw[←Ma];exact setRow_heap W g _ _ _ _ (h.cell (g,t,c) (by rw[←hgi];exact List.getElem_mem hil))
  ·rename_i hik
   have AB:k<L.length:=by simpa using hk
   have hpm:p∈L:=by rw[←Ma];exact List.getElem_mem AB
   have eL:p.1≠g:=by
    intro e;have h1:=List.pairwise_iff_getElem.1 h.nd
    rcases Nat.lt_or_ge i k with dN|O'
    ·exact h1 i k (by simpa using hil) (by simpa using AB) dN (by simp[hgi,Ma,e])
    ·exact h1 k i (by simpa using AB) (by simpa using hil) (by omega) (by simp[hgi,Ma,e])
   rw[setRow_other _ _ _ _ eL];exact h.cell p hpm
 ·have:(L.set i (g,t,c')).map (·.1)=L.map (·.1):=by
   rw[List.map_set];apply List.ext_getElem
   ·simp
   ·intro n h1 h2;rw[List.getElem_set];split
    ·rename_i hin
     subst hin;simp[hgi]
    ·rfl
  rw[this];exact h.nd
theorem Vr.sub {W:aw}{L L':List (Nat×TypeId×bK)}(h:Vr W L)(hs:L'.Sublist L):Vr W L':=
 ⟨λp hp=>h.cell p (hs.subset hp),(hs.map _).nodup h.nd⟩
structure Vw (w W:aw)(L:List (Nat×TypeId×bK)):Prop where
 vr:Vr W L
 lo:∀p∈L,w.heap.size≤p.1
 aY:Below w.heap.size w W
theorem Vw.later {w W W':aw}{L:List (Nat×TypeId×bK)}(h:Vw w W L)(hb:Below W.heap.size W W'):Vw w W' L:=⟨h.vr.later hb,h.lo,h.aY.trans (hb.mono h.aY.size)⟩
theorem Vw.drew {w W:aw}{L:List (Nat×TypeId×bK)}(h:Vw w W L):Vw w W.drew L:=⟨h.vr.later gl,h.lo,h.aY.drew⟩
theorem Vw.cell {w W:aw}{L:List (Nat×TypeId×bK)}(h:Vw w W L)(p:Nat×TypeId×bK)(hp:p∈L):W.heap[p.1]?=some (.cells p.2.2.toArray p.2.1 (0,0)):=h.vr.cell p hp
theorem Vw.put {w W:aw}{L:List (Nat×TypeId×bK)}(h:Vw w W L)(i:Nat)(g:Nat)(t:TypeId)(c c':bK)(hi:L[i]?=some (g,t,c)):Vw w (W.setRow g c'.toArray) (L.set i (g,t,c')):=by
 have QL:w.heap.size≤g:=h.lo (g,t,c) (List.mem_of_getElem? hi);refine⟨h.vr.put i g t c c' hi,λp hp=>?_,below_setRow h.aY QL _⟩
 rcases List.mem_or_eq_of_mem_set hp with h1|h1
 ·exact h.lo p h1
 ·rw[h1];exact QL
theorem Vw.setCell {w W:aw}{L:List (Nat×TypeId×bK)}(h:Vw w W L)(i:Nat)(g:Nat)(t:TypeId)(c:bK)(n:Nat)(v:Value)(hi:L[i]?=some (g,t,c)):Vw w (W.setCell ⟨g,n,none⟩ v) (L.set i (g,t,c.set n v)):=by
 have h1:=h.put i g t c (c.set n v) hi;have h2:=h.cell (g,t,c) (List.mem_of_getElem? hi);have h3:W.setCell ⟨g,n,none⟩ v=W.setRow g (c.set n v).toArray:=by rw[setCell_eq_setRow W g n c.toArray t (0,0) v h2];simp
 rw[h3];exact h1
theorem Vw.sub {w W:aw}{L L':List (Nat×TypeId×bK)}(h:Vw w W L)(hs:L'.Sublist L):Vw w W L':=⟨h.vr.sub hs,λp hp=>h.lo p (hs.subset hp),h.aY⟩
theorem Vw.add {w W:aw}{L:List (Nat×TypeId×bK)}(h:Vw w W L)(g:Nat)(t:TypeId)(c:bK)(hc:W.heap[g]?=some (.cells c.toArray t (0,0)))(hn:∀p∈L,p.1≠g)(hg:w.heap.size≤g):Vw w W (L++[(g,t,c)]):=by
 refine⟨h.vr.add g t c hc hn,λp hp=>?_,h.aY⟩
 rcases List.mem_append.1 hp with h1|h1
 ·exact h.lo p h1
 ·rw[List.mem_singleton.1 h1];exact hg
theorem Vw.alloc {w W:aw}{L:List (Nat×TypeId×bK)}(h:Vw w W L)(t:TypeId)(c:bK):Vw w (W.alloc (.cells c.toArray t)) (L++[(W.heap.size,t,c)]):=
 (h.later eF).add _ _ _ (eC W _) (λp hp=>Nat.ne_of_lt (h.vr.lt p hp)) h.aY.size
theorem Vw.none (w:aw):Vw w w []:=⟨⟨λp hp=>(by cases hp),by simp⟩,λp hp=>(by cases hp),bZ _ _⟩
theorem Vw.more {w W:aw}(t:TypeId)(g:Nat→Nat)(cont:Nat→bK):∀(dY:List Nat) (L:List (Nat×TypeId×bK)),Vw w W L→dY.Nodup→(∀p∈dY,w.heap.size≤g p∧W.heap[g p]?=some (.cells (cont p).toArray t (0,0))∧∀q∈L,q.1≠g p)→(∀p∈dY,∀q∈dY,p≠q→g p≠g q)→
  Vw w W (L++dY.map λp=>(g p,t,cont p))
 |[],L,h,_,_,_=>by rw[List.map_nil,List.append_nil];exact h
 |p::r,L,h,hnd,hc,hd=>by
  obtain⟨s9,tL⟩:=List.nodup_cons.1 hnd;obtain⟨h1,h2,h3⟩:=hc p (by simp);have:=Vw.more t g cont r (L++[(g p,t,cont p)]) (h.add _ _ _ h2 h3 h1) tL (λq hq=>by
   obtain⟨k1,k2,k3⟩:=hc q (by simp[hq]);refine⟨k1,k2,λx hx=>?_⟩
   rcases List.mem_append.1 hx with hx|hx
   ·exact k3 x hx
   ·rw[List.mem_singleton.1 hx];exact hd p (by simp) q (by simp[hq]) (λe=>s9 (by rw[e];exact hq))) (λq hq x hx=>hd q (by simp[hq]) x (by simp[hx]))
  rw[List.append_assoc] at this;exact this
theorem Vw.places {w W0 W:aw}{L:List (Nat×TypeId×bK)}(h0:Vw w W0 L)(hb:Below W0.heap.size W0 W)(t:TypeId)(g:Nat→Nat)(cont:Nat→bK)(dY:List Nat)(hnd:dY.Nodup)(hc:∀p∈dY,W0.heap.size≤g p∧W.heap[g p]?=some (.cells (cont p).toArray t (0,0)))(hd:∀p∈dY,∀q∈dY,p≠q→g p≠g q):
  Vw w W (L++dY.map λp=>(g p,t,cont p)):=
 Vw.more t g cont dY L (h0.later hb) hnd (λp hp=>⟨kx h0.aY.size (hc p hp).1,(hc p hp).2,λq hq e=>by have h1:=h0.vr.lt q hq;have h2:=(hc p hp).1;omega⟩) hd
theorem NV {ev:Operand→Value}{o:Oper}{w:aw}(ho:o.op= .alloc 82):
  (execOp ev o).run prog w= .ok (.value (.pointer (some ⟨w.heap.size,0,none⟩))) (w.alloc (.cells dX.toArray 82)):=by
 unfold execOp;simp only[ho];go_simp
 rfl
theorem Ro {ev:Operand→Value}{o:Oper}{w:aw}{x y:Operand}{g:Nat}{c c0:bK}{n:Nat}(ho:o.op= .store 82 x y)(hx:ev x= .pointer (some ⟨g,0,none⟩))(hy:ev y= .agg c.toArray)(hE:cO c n)(hl:c0.length=5)(hc:wM w g c0):
  (execOp ev o).run prog w= .ok .skip (w.setRow g c.toArray):=by
 have xA:=aL w g _ _ c hc (by rw[hE.len];simp[hl]) hE.one;have hlen:=hE.len;have hu:=underlying82;unfold execOp;simp only[ho,hx,hy];go_simp
theorem aaj {ops:Array Oper}{rest:List Oper}{o:Oper}{a:Act}{w:aw}{Q:Exit→Act→aw→Prop}{x y:Operand}{g:Nat}{c c0:bK}{n:Nat}(hgd:o.guard=none)(ho:o.op= .store 82 x y)(alR:o.dst=none)(hx:a.eval x= .pointer (some ⟨g,0,none⟩))(hy:a.eval y= .agg c.toArray)(hE:cO c n)(hl:c0.length=5)(hc:wM w g c0)
  (h:wpList prog ops Q rest a (w.setRow g c.toArray)):wpList prog ops Q (o::rest) a w:=by
 refine wpList_plain hgd λK hK=>?_;unfold Oper.wp;rw[Ro ho hx hy hE hl hc];show K (a.put o.dst ag) _;rw[alR];exact hK _ _ h
def elK:PK:=⟨82,dX,λc=>∃n,cO c n,NV,λh1 h2 h3 ⟨_,h4⟩ h5=>Ro h1 h2 h3 h4 qd h5⟩
abbrev Plc:=aaW 82
abbrev aia:=abo 82
theorem mo {ops:Array Oper}{m sz:Nat}{dY:List Nat}{so vq:Nat→Nat}(h:aia ops m sz dY so vq=true):Plc ops m sz dY so vq:=aaI h
theorem BA {ops:Array Oper}{m sz:Nat}{so vq:Nat→Nat}:Plc ops m sz [] so vq:=⟨λp h=>(by cases h),λp h=>(by cases h),λp h=>(by cases h),λp h=>(by cases h)⟩
theorem cF {ops:Array Oper}{Q:Exit→Act→aw→Prop}{id:Nat}{a:Act}{w:aw}(m:Nat)(hm:m≤ops.size)(qu:zH .any ops=true)(jS:uD ops m=true)(rp:Br .any ops m=true)(hmx:prog.follows .mixedOrders=true)
  (dY:List Nat) (so vq:Nat→Nat) (P:Plc ops m a.tmps.size dY so vq) (Sp:Nat→Value→Prop) (hSp:∀p∈dY,∀x,Sp (vq p) x→∃c n,x= .agg c.toArray∧cO c n)
  (hval:∀(d:Nat→Bool) (v:Nat→Value) (W:aw) (i:Nat) (o:Oper) (A:Act),i<m→i∉dY→i∉dY.map so→ops[i]?=some o→(∀j,j∉dY→j∉dY.map so→d j=true→j<m→Sp j (v j))→(∀e∈o.after,Region.binds .any e=true→d e.on=true)→B4 ops m v d a A→Below w.drew.heap.size w.drew W→
   Region.wanted o (yielded ops A.tmps)=true∧o.wp prog A W (λa' W'=>∃x,a'=A.put o.dst x∧Sp i x∧Below W.heap.size W W') Q)
  (vJ:∀(v:Nat→Value) (g:Nat→Nat) (W:aw),(∀j,j<m→j∉dY→j∉dY.map so→Sp j (v j))→(∀p∈dY,v p= .pointer (some ⟨g p,0,none⟩)∧w.drew.heap.size≤g p∧∃c n,v (vq p)= .agg c.toArray∧cO c n∧wM W (g p) c)→(∀p∈dY,∀q∈dY,p≠q→g p≠g q)→Below w.drew.heap.size w.drew W→
   wpList prog ops Q (ops.toList.drop m) (eb ops v (λ_=>true) m a) W):
  (Code.region id ops true).wp prog Q a w:=by
 refine o9 elK m hm qu jS rp hmx dY so vq P Sp (λp hp x hx=>?_) hval (λv g W h1 h2 h3 h4=>vJ v g W h1 (λp hp=>?_) h3 h4)
 ·obtain⟨c,n,e1,e2⟩:=hSp p hp x hx;exact⟨c,e1,n,e2⟩
 ·obtain⟨e1,e2,c,e3,⟨n,e4⟩,e5⟩:=h2 p hp;exact⟨e1,e2,c,n,e3,e4,e5⟩
theorem pU {P:Program}{fn:Func}{p q:Tmp}{ty:TypeId}(h:fn.results= #[.cell p ty,.cell q ty])(tmps:Array Value)(w:aw)(g1 g2:Nat)(t:TypeId)(A B:Array Value)(d:TypeDesc)
  (hp:tmps.getD p ag= .pointer (some ⟨g1,0,none⟩)) (hq:tmps.getD q ag= .pointer (some ⟨g2,0,none⟩))
  (h1:w.heap[g1]?=some (.cells A t (0,0))) (h2:w.heap[g2]?=some (.cells B t (0,0)))
  (hu:P.underlying ty=some d) (hd:(match d with| .struct _| .array _ _=>true|_=>false)=true) (hA:(P.info? ty).map (·.size)=some A.size) (hB:(P.info? ty).map (·.size)=some B.size):
  (results fn tmps).run P w= .ok (.tuple #[.agg A,.agg B]) w:=by
 have ND:tmps[p]?.getD ag= .pointer (some ⟨g1,0,none⟩):=by simpa using hp
 have NF:tmps[q]?.getD ag= .pointer (some ⟨g2,0,none⟩):=by simpa using hq
 simp[results,h,ND,NF,asAddr,run_loadVar_row w g1 t ty A (0,0) d h1 hu hd hA,run_loadVar_row w g2 t ty B (0,0) d h2 hu hd hB]
structure Sp (w:aw)(A B:bK)(W:aw):Prop where
 x:wM W w.heap.size A
 y:wM W (w.heap.size+1) B
 r1:wM W (w.heap.size+1+1) dX
 r2:wM W (w.heap.size+1+1+1) dX
 aY:Below w.heap.size w W
theorem Sp.new (w:aw)(A B:bK):Sp w A B ((((w.alloc (.cells A.toArray 82)).alloc (.cells B.toArray 82)).alloc (.cells dX.toArray 82)).alloc (.cells dX.toArray 82)):=by
 have h1:=wM.new w A;have h2:=wM.new (w.alloc (.cells A.toArray 82)) B;have h3:=wM.new ((w.alloc (.cells A.toArray 82)).alloc (.cells B.toArray 82)) dX;have h4:=wM.new (((w.alloc (.cells A.toArray 82)).alloc (.cells B.toArray 82)).alloc (.cells dX.toArray 82)) dX;rw[fx] at h2;rw[fx,fx] at h3;rw[fx,fx,fx] at h4;exact⟨((h1.later eF).later eF).later eF,
  (h2.later eF).later eF,h3.later eF,h4,
  ((eF.alloc (by simp) _).alloc (by simp;omega) _).alloc (by simp;omega) _⟩
theorem Gx (is:Bool)(A B:bK)(x y:Nat)(w:aw)(hA:cO A x)(hB:cO B y):
  Calls prog 69 #[.bool is,.agg A.toArray,.agg B.toArray] w λe w'=>∃C D,e= .returned (.tuple #[.agg C.toArray,.agg D.toArray])∧cO C (if is then y else x)∧cO D (if is then x else y)∧Below w.heap.size w w':=by
 have HA:ae (cO A x):=hA;have HB:ae (cO B y):=hB;have hAl:=hA.len;have MV:=hB.len;have uo:ae (Sp w A B ((((w.alloc (.cells A.toArray 82)).alloc (.cells B.toArray 82)).alloc (.cells dX.toArray 82)).alloc (.cells dX.toArray 82))):=Sp.new w A B;clear hA hB;cases is with
 |true=>
  go_enter func69,ntmps69
  go_wp2
  refine bY (P:=Code.wp prog _ _ _) (R:=λW=>ae (Sp w A B W)) _ uo ?_;clear uo;intro W0 HS;obtain⟨W,kY⟩:=aW (W0.drew);have ij:ae (W0.drew=W):=kY;have hdr:Below W0.heap.size W0 W:=by rw[←kY];exact gl
  have hS:Sp w A B W:=⟨HS.o.x.later hdr,HS.o.y.later hdr,HS.o.r1.later hdr,HS.o.r2.later hdr,HS.o.aY.trans (hdr.mono HS.o.aY.size)⟩;have gN:=aL W (w.heap.size+1+1) _ _ B hS.r1 (by simp[MV,qd]) HB.o.one;have c1:wM (W.setRow (w.heap.size+1+1) B.toArray) (w.heap.size+1+1) B:=setRow_heap W _ _ _ _ _ hS.r1;have c2:=hS.r2.fF (g':=w.heap.size+1+1) (by omega) B.toArray;have b1:Below (w.heap.size+1+1) W (W.setRow (w.heap.size+1+1) B.toArray):=below_setRow (bZ _ _) (di _) _;obtain⟨X1,jN⟩:=aW (W.setRow (w.heap.size+1+1) B.toArray);rw[jN] at gN c1 c2 b1;have eO:=aL X1 (w.heap.size+1+1+1) _ _ A c2 (by simp[hAl,qd]) HA.o.one;have d2:wM (X1.setRow (w.heap.size+1+1+1) A.toArray) (w.heap.size+1+1+1) A:=setRow_heap X1 _ _ _ _ _ c2;have d1:=c1.fF (g':=w.heap.size+1+1+1) (by omega) A.toArray;have b2:Below (w.heap.size+1+1) X1 (X1.setRow (w.heap.size+1+1+1) A.toArray):=below_setRow (bZ _ _) (by omega) _;obtain⟨X2,lf⟩:=aW (X1.setRow (w.heap.size+1+1+1) A.toArray);rw[lf] at eO d1 d2 b2;have bR:ae (Below w.heap.size w X2):=(hS.aY.trans (b1.mono (by omega))).trans (b2.mono (by omega));have gg:=f9 hS;have D1:=f9 d1;have D2:=f9 d2;clear kY hdr hS HS c1 c2 d1 d2 jN lf;refine ah (G:=Below (w.heap.size+1+1)) (by kernel_rfl) (λ_=>bZ _ _) (λ_ _ _ h k=>Below.trans h k) (by kernel_rfl) [(0,true),(1,true),(2,false),(3,false)] rfl (by kernel_rfl) ?_;intro KK cA;rw[ij.o];clear ij;refine aa rfl (by rfl) (v:=.agg B.toArray) (λw' hw'=>ar 82 _ rfl (w.heap.size+1) rfl 82 _ (0,0) _ (gg.o.y.below hw' (by omega)) underlying82 rfl (bz HB.o)) ?_;go_simp
  refine aa rfl (by rfl) (v:=.agg A.toArray) (λw' hw'=>ar 82 _ rfl w.heap.size rfl 82 _ (0,0) _ (gg.o.x.below hw' (by omega)) underlying82 rfl (bz HA.o)) ?_;go_simp
  refine bu rfl (by rfl) (w':=X1) (by go_simp) b1 ?_;go_simp
  refine bu rfl (by rfl) (w':=X2) (by go_simp) b2 ?_;clear gN eO b1 b2;go_simp
  refine az cA ?_;clear cA
  (try go_wp2)
  (try simp only[nu,Exit.then])
  refine bodyPost_ret (pU rfl _ _ (w.heap.size+1+1) (w.heap.size+1+1+1) 82 _ _ _ rfl rfl D1.out D2.out underlying82 rfl (bz HB.o) (bz HA.o)) rfl ?_;exact⟨B,A,rfl,HB.o,HA.o,bR.o⟩
 |false=>
  go_enter func69,ntmps69
  go_wp2
  refine bY (P:=Code.wp prog _ _ _) (R:=λW=>ae (Sp w A B W)) _ uo ?_;clear uo;intro W0 HS;obtain⟨W,kY⟩:=aW (W0.drew);have ij:ae (W0.drew=W):=kY;have hdr:Below W0.heap.size W0 W:=by rw[←kY];exact gl
  have hS:Sp w A B W:=⟨HS.o.x.later hdr,HS.o.y.later hdr,HS.o.r1.later hdr,HS.o.r2.later hdr,HS.o.aY.trans (hdr.mono HS.o.aY.size)⟩;have gN:=aL W (w.heap.size+1+1) _ _ A hS.r1 (by simp[hAl,qd]) HA.o.one;have c1:wM (W.setRow (w.heap.size+1+1) A.toArray) (w.heap.size+1+1) A:=setRow_heap W _ _ _ _ _ hS.r1;have c2:=hS.r2.fF (g':=w.heap.size+1+1) (by omega) A.toArray;have b1:Below (w.heap.size+1+1) W (W.setRow (w.heap.size+1+1) A.toArray):=below_setRow (bZ _ _) (di _) _;obtain⟨X1,jN⟩:=aW (W.setRow (w.heap.size+1+1) A.toArray);rw[jN] at gN c1 c2 b1;have eO:=aL X1 (w.heap.size+1+1+1) _ _ B c2 (by simp[MV,qd]) HB.o.one;have d2:wM (X1.setRow (w.heap.size+1+1+1) B.toArray) (w.heap.size+1+1+1) B:=setRow_heap X1 _ _ _ _ _ c2;have d1:=c1.fF (g':=w.heap.size+1+1+1) (by omega) B.toArray;have b2:Below (w.heap.size+1+1) X1 (X1.setRow (w.heap.size+1+1+1) B.toArray):=below_setRow (bZ _ _) (by omega) _;obtain⟨X2,lf⟩:=aW (X1.setRow (w.heap.size+1+1+1) B.toArray);rw[lf] at eO d1 d2 b2;have bR:ae (Below w.heap.size w X2):=(hS.aY.trans (b1.mono (by omega))).trans (b2.mono (by omega));have gg:=f9 hS;have D1:=f9 d1;have D2:=f9 d2;clear kY hdr hS HS c1 c2 d1 d2 jN lf;refine ah (G:=Below (w.heap.size+1+1)) (by kernel_rfl) (λ_=>bZ _ _) (λ_ _ _ h k=>Below.trans h k) (by kernel_rfl) [(0,true),(1,true),(2,false),(3,false)] rfl (by kernel_rfl) ?_;intro KK cA;rw[ij.o];clear ij;refine aa rfl (by rfl) (v:=.agg A.toArray) (λw' hw'=>ar 82 _ rfl w.heap.size rfl 82 _ (0,0) _ (gg.o.x.below hw' (by omega)) underlying82 rfl (bz HA.o)) ?_;go_simp
  refine aa rfl (by rfl) (v:=.agg B.toArray) (λw' hw'=>ar 82 _ rfl (w.heap.size+1) rfl 82 _ (0,0) _ (gg.o.y.below hw' (by omega)) underlying82 rfl (bz HB.o)) ?_;go_simp
  refine bu rfl (by rfl) (w':=X1) (by go_simp) b1 ?_;go_simp
  refine bu rfl (by rfl) (w':=X2) (by go_simp) b2 ?_;clear gN eO b1 b2;go_simp
  refine az cA ?_;clear cA
  (try go_wp2)
  (try simp only[nu,Exit.then])
  refine bodyPost_ret (pU rfl _ _ (w.heap.size+1+1) (w.heap.size+1+1+1) 82 _ _ _ rfl rfl D1.out D2.out underlying82 rfl (bz HA.o) (bz HB.o)) rfl ?_;exact⟨A,B,rfl,HA.o,HB.o,bR.o⟩
structure PtC (c:bK)(n:Nat):Prop where
 len:c.length=10
 one:∀v∈c,v.oneCell'=true
def vS (c:bK)(x z:Nat):Prop:=∃a b,c=a++b∧cO a x∧cO b z
theorem vS.qe {c:bK}{x z:Nat}(h:vS c x z):PtC c 0:=by
 obtain⟨a,b,rfl,h1,h2⟩:=h;refine⟨by rw[List.length_append,h1.len,h2.len],λv hv=>?_⟩
 rcases List.mem_append.1 hv with h|h
 ·exact h1.one v h
 ·exact h2.one v h
def cy:bK:=[.int .u64 0,.int .u64 0,.int .u64 0,.int .u64 0,.int .u64 0,.int .u64 0,.int .u64 0,.int .u64 0,.int .u64 0,.int .u64 0]
theorem Rs:cy.length=10:=by decide
def wN (W:aw)(g:Nat)(vs:bK):Prop:=W.heap[g]?=some (.cells vs.toArray 87 (0,0))
theorem wN.lt {w:aw}{g:Nat}{l:bK}(h:wN w g l):g<w.heap.size:=(gD.1 h).1
theorem wN.later {w w':aw}{g:Nat}{l:bK}(h:wN w g l)(hb:Below w.heap.size w w'):wN w' g l:=by unfold wN;rw[hb.block g h.lt];exact h
theorem wN.fF {w:aw}{g g':Nat}{l:bK}(h:wN w g l)(eL:g≠g')(cs:Array Value):wN (w.setRow g' cs) g l:=by unfold wN;rw[setRow_other _ _ _ _ eL];exact h
theorem wN.new (w:aw)(l:bK):wN (w.alloc (.cells l.toArray 87)) w.heap.size l:=eC w _
theorem jQ {c:bK}{n:Nat}(h:PtC c n):(prog.info? 87).map (·.size)=some c.toArray.size:=by
 have e1:(prog.info? 87).map (·.size)=some 10:=by kernel_rfl
 rw[e1];simp[h.len]
theorem Rt (a b:bK)(x z:Nat)(ha:cO a x)(hb:cO b z):prog.built 87 [(0,.agg a.toArray),(1,.agg b.toArray)]=some (a++b).toArray:=by
 have h:∀parts,prog.built 87 parts=Instr.fill (#[(0,5),(5,5)][·]?) cy.toArray parts:=λparts=>by kernel_rfl
 have h1:=ha.len;have h2:=hb.len;obtain⟨Z,hZ⟩:=aW (cy);have Jy:Z.length=10:=by rw[←hZ];rfl
 rw[h,hZ,jB _ _ 0 0 a _ (by simp[h1]) (by simp;omega),jB _ _ 1 5 b _ (by simp[h2]) (by simp;omega)];simp only[Instr.fill,List.take_zero,List.nil_append,h1,h2,Nat.zero_add];rw[List.take_left' (by simp[h1]),List.drop_eq_nil_of_le (by simp;omega),List.append_nil]
theorem Ru (a:bK)(x:Nat)(ha:cO a x):prog.built 87 [(0,.agg a.toArray)]=some (a++dX).toArray:=by
 have h:∀parts,prog.built 87 parts=Instr.fill (#[(0,5),(5,5)][·]?) cy.toArray parts:=λparts=>by kernel_rfl
 have h1:=ha.len;rw[h,jB _ _ 0 0 a _ (by simp[h1]) (by simp[cy];omega)];simp only[Instr.fill,List.take_zero,List.nil_append,h1,Nat.zero_add];rfl
theorem wO {ev:Operand→Value}{o:Oper}{w:aw}{x y:Operand}{a b:bK}{m n:Nat}(ho:o.op= .build 87 #[(0,x),(1,y)])(hx:ev x= .agg a.toArray)(hy:ev y= .agg b.toArray)(ha:cO a m)(hb:cO b n):
  (execOp ev o).run prog w= .ok (.value (.agg (a++b).toArray)) w:=by
 unfold execOp;simp only[ho,Sem.run_bind,run_build (P:=prog) w 87 (#[(0,x),(1,y)].map λx=>(x.fst,ev x.snd)) (a++b).toArray (by simp[hx,hy,Rt a b m n ha hb]),Result.andThen_ok,Sem.run_pure]
theorem Lf {ev:Operand→Value}{o:Oper}{w:aw}{x:Operand}{a:bK}{m:Nat}(ho:o.op= .build 87 #[(0,x)])(hx:ev x= .agg a.toArray)(ha:cO a m):
  (execOp ev o).run prog w= .ok (.value (.agg (a++dX).toArray)) w:=by
 unfold execOp;simp only[ho,Sem.run_bind,run_build (P:=prog) w 87 (#[(0,x)].map λx=>(x.fst,ev x.snd)) (a++dX).toArray (by simp[hx,Ru a m ha]),Result.andThen_ok,Sem.run_pure]
theorem zT {ev:Operand→Value}{o:Oper}{w:aw}{x:Operand}{g:Nat}(ho:o.op= .fieldAddr 87 x 0)(hx:ev x= .pointer (some ⟨g,0,none⟩)):
  (execOp ev o).run prog w= .ok (.value (.pointer (some ⟨g,0,none⟩))) w:=by
 unfold execOp;simp only[ho,hx];go_simp
theorem zU {ev:Operand→Value}{o:Oper}{w:aw}{x:Operand}{g:Nat}(ho:o.op= .fieldAddr 87 x 1)(hx:ev x= .pointer (some ⟨g,0,none⟩)):
  (execOp ev o).run prog w= .ok (.value (.pointer (some ⟨g,5,none⟩))) w:=by
 unfold execOp;simp only[ho,hx];go_simp
theorem Ei {w:aw}{g:Nat}{t:TypeId}{fr:Nat×Nat}{c a b:bK}(hc:w.heap[g]?=some (.cells c.toArray t fr))(he:c=a++b):∀j v,a[j]?=some v→w.cell? ⟨g,0+j,none⟩=some v:=
 dF [] a b (by rw[he] at hc;exact hc) 0 rfl
theorem Ej {w:aw}{g:Nat}{t:TypeId}{fr:Nat×Nat}{c a b:bK}{n:Nat}(hc:w.heap[g]?=some (.cells c.toArray t fr))(he:c=a++b)(ha:cO a n):∀j v,b[j]?=some v→w.cell? ⟨g,5+j,none⟩=some v:=
 dF a b [] (by rw[he] at hc;rw[List.append_nil];exact hc) 5 ha.len
theorem tG {cs:bK}{x:Nat}(h:cO cs x):(prog.info? 82).map (·.size)=some cs.length:=by rw[bz h];simp
theorem oV {a:Act}{o:Oper}{w:aw}{x:Operand}{g:Nat}{c a1 a2:bK}{m:Nat}{t:TypeId}{fr:Nat×Nat}(ho:o.op= .load 82 x)(hx:a.eval x= .pointer (some ⟨g,0,none⟩))(hc:w.heap[g]?=some (.cells c.toArray t fr))(he:c=a1++a2)(h1:cO a1 m):
  (execOp a.eval o).run prog w= .ok (.value (.agg a1.toArray)) w:=
 bE 82 x ho g 0 hx a1 _ (Ei hc he) underlying82 rfl (tG h1)
theorem oW {a:Act}{o:Oper}{w:aw}{x:Operand}{g:Nat}{c a1 a2:bK}{m n:Nat}{t:TypeId}{fr:Nat×Nat}(ho:o.op= .load 82 x)(hx:a.eval x= .pointer (some ⟨g,5,none⟩))(hc:w.heap[g]?=some (.cells c.toArray t fr))(he:c=a1++a2)(h1:cO a1 m)(h2:cO a2 n):
  (execOp a.eval o).run prog w= .ok (.value (.agg a2.toArray)) w:=
 bE 82 x ho g 5 hx a2 _ (Ej hc he h1) underlying82 rfl (tG h2)
theorem Pz (w:aw)(g:Nat)(c a1 a2 b:bK){m n:Nat}(hc:w.heap[g]?=some (.cells c.toArray 87 (0,0)))(he:c=a1++a2)(h1:cO a1 m)(hb:cO b n):
  (storeCells ⟨g,0,none⟩ b).run prog w= .ok () (w.setRow g (b++a2).toArray):=by
 have h:=fu (P:=prog) g 0 _ b 0 c.toArray w hc (by rw[he];simp[h1.len,hb.len]) hb.one;rw[h,he]
 congr 2
 simp only[Nat.add_zero,Nat.zero_add,List.take_zero,List.nil_append,hb.len];rw[List.drop_left' h1.len]
theorem PA (w:aw)(g:Nat)(c a1 a2 b:bK){m k n:Nat}(hc:w.heap[g]?=some (.cells c.toArray 87 (0,0)))(he:c=a1++a2)(h1:cO a1 m)(h2:cO a2 k)(hb:cO b n):
  (storeCells ⟨g,5,none⟩ b).run prog w= .ok () (w.setRow g (a1++b).toArray):=by
 have h:=fu (P:=prog) g 5 _ b 0 c.toArray w hc (by rw[he];simp[h1.len,h2.len,hb.len]) hb.one;rw[h,he]
 congr 2
 simp only[Nat.add_zero,hb.len];rw[List.take_left' h1.len,List.drop_eq_nil_of_le (by simp[h1.len,h2.len]),List.append_nil]
theorem Lg {ev:Operand→Value}{o:Oper}{w:aw}(ho:o.op= .alloc 87):
  (execOp ev o).run prog w= .ok (.value (.pointer (some ⟨w.heap.size,0,none⟩))) (w.alloc (.cells cy.toArray 87)):=by
 unfold execOp;simp only[ho];go_simp
 rfl
theorem NX {ev:Operand→Value}{o:Oper}{w:aw}{x y:Operand}{g:Nat}{c c0:bK}{n:Nat}(ho:o.op= .store 87 x y)(hx:ev x= .pointer (some ⟨g,0,none⟩))(hy:ev y= .agg c.toArray)(hE:PtC c n)(hl:c0.length=10)(hc:wN w g c0):
  (execOp ev o).run prog w= .ok .skip (w.setRow g c.toArray):=by
 have xA:=aL w g _ _ c hc (by rw[hE.len];simp[hl]) hE.one;have hlen:=hE.len;have hu:=underlying87;unfold execOp;simp only[ho,hx,hy];go_simp
def ptK:PK:=⟨87,cy,λc=>∃n,PtC c n,Lg,λh1 h2 h3 ⟨_,h4⟩ h5=>NX h1 h2 h3 h4 Rs h5⟩
abbrev Vg:=aaW 87
abbrev aaK:=abo 87
theorem Ij {ops:Array Oper}{m sz:Nat}{dY:List Nat}{so vq:Nat→Nat}(h:aaK ops m sz dY so vq=true):Vg ops m sz dY so vq:=aaI h
theorem ox {ops:Array Oper}{Q:Exit→Act→aw→Prop}{id:Nat}{a:Act}{w:aw}(m:Nat)(hm:m≤ops.size)(qu:zH .any ops=true)(jS:uD ops m=true)(rp:Br .any ops m=true)(hmx:prog.follows .mixedOrders=true)
  (dY:List Nat) (so vq:Nat→Nat) (P:Vg ops m a.tmps.size dY so vq) (Sp:Nat→Value→Prop) (hSp:∀p∈dY,∀x,Sp (vq p) x→∃c n,x= .agg c.toArray∧PtC c n)
  (hval:∀(d:Nat→Bool) (v:Nat→Value) (W:aw) (i:Nat) (o:Oper) (A:Act),i<m→i∉dY→i∉dY.map so→ops[i]?=some o→(∀j,j∉dY→j∉dY.map so→d j=true→j<m→Sp j (v j))→(∀e∈o.after,Region.binds .any e=true→d e.on=true)→B4 ops m v d a A→Below w.drew.heap.size w.drew W→
   Region.wanted o (yielded ops A.tmps)=true∧o.wp prog A W (λa' W'=>∃x,a'=A.put o.dst x∧Sp i x∧Below W.heap.size W W') Q)
  (vJ:∀(v:Nat→Value) (g:Nat→Nat) (W:aw),(∀j,j<m→j∉dY→j∉dY.map so→Sp j (v j))→(∀p∈dY,v p= .pointer (some ⟨g p,0,none⟩)∧w.drew.heap.size≤g p∧∃c n,v (vq p)= .agg c.toArray∧PtC c n∧wN W (g p) c)→(∀p∈dY,∀q∈dY,p≠q→g p≠g q)→Below w.drew.heap.size w.drew W→
   wpList prog ops Q (ops.toList.drop m) (eb ops v (λ_=>true) m a) W):
  (Code.region id ops true).wp prog Q a w:=by
 refine o9 ptK m hm qu jS rp hmx dY so vq P Sp (λp hp x hx=>?_) hval (λv g W h1 h2 h3 h4=>vJ v g W h1 (λp hp=>?_) h3 h4)
 ·obtain⟨c,n,e1,e2⟩:=hSp p hp x hx;exact⟨c,e1,n,e2⟩
 ·obtain⟨e1,e2,c,e3,⟨n,e4⟩,e5⟩:=h2 p hp;exact⟨e1,e2,c,n,e3,e4,e5⟩
end Go.Proofs.YtkdpblbhcfhagaaGreatDoor
