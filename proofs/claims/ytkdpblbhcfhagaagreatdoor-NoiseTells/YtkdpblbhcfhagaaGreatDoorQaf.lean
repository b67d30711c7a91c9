import Derived.Test.YtkdpblbhcfhagaaGreatDoorQad
import Derived.Test.YtkdpblbhcfhagaaGreatDoorQae
import Derived.Laws.Externs
namespace Go.Proofs.YtkdpblbhcfhagaaGreatDoor
open Go.Proofs.Tryz
open _root_.Nat renaming le_refl → di, le_trans → kx, lt_of_lt_of_le → tV
open Go.RowKit.Below renaming refl → bZ, heap_alloc → jE
open Go.World renaming size_alloc → fx
open _root_.Array renaming getElem?_eq_some_iff → gD
open Go renaming undef → ag, World → aw, heap_alloc_new → eC
open _root_.List renaming replicate → cz, not_mem_nil → nj, mem_cons → mg, take_of_length_le → su
open Go.Exit renaming inBlock → nu
set_option maxHeartbeats 64000000
set_option linter.unusedVariables false
set_option maxRecDepth 100000
open Go.RowKit
def fD:List Nat→Nat
 |[]=>0
 |c::r=>c+67108864*fD r
theorem Bm:∀a b,fD (a++b)=fD a+67108864^a.length*fD b
 |[],b=>by simp[fD]
 |c::r,b=>by simp only[List.cons_append,fD,Bm r b,List.length_cons,Nat.pow_succ];rw[Nat.mul_add,←Nat.mul_assoc,Nat.mul_comm (67108864^r.length) 67108864,Nat.add_assoc]
theorem QA (a:List Nat)(x:Nat):fD (a++[x])=fD a+67108864^a.length*x:=by rw[Bm];simp[fD]
theorem H4 (l:List Nat)(k:Nat)(h:k<l.length):fD (l.take (k+1))=fD (l.take k)+67108864^k*cf l k:=by rw[An l k h,QA,List.length_take,Nat.min_eq_left (by omega)]
theorem Dh:∀(l:List Nat) (i x:Nat),i<l.length→fD (l.set i (cf l i+x))=fD l+67108864^i*x
 |[],i,x,h=>by simp at h
 |c::r,0,x,h=>by simp[fD,cf];omega
 |c::r,i+1,x,h=>by
  have ih:=Dh r i x (by simpa using h);have e:cf (c::r) (i+1)=cf r i:=by simp[cf]
  rw[e];simp only[List.set_cons_succ,fD,ih];rw[Nat.mul_add,Nat.pow_succ,←Nat.mul_assoc,Nat.mul_comm 67108864 (67108864^i),Nat.add_assoc]
theorem O9:∀l:List Nat,(∀x∈l,x<67108864)→fD l<67108864^l.length
 |[],_=>by simp[fD]
 |c::r,h=>by have h1:=h c (by simp);have h2:=O9 r (λx hx=>h x (by simp[hx]));simp only[fD,List.length_cons,Nat.pow_succ];omega
theorem wu (l:List Nat)(h:l.length=5):∃a b c d e,l=[a,b,c,d,e]:=by
 match l,h with
 |[a,b,c,d,e],_=>exact⟨a,b,c,d,e,rfl⟩
theorem dC (l:List Nat)(B:Nat)(hB:0<B)(h:∀x∈l,x<B)(i:Nat):cf l i<B:=by
 rcases Nat.lt_or_ge i l.length with hi|hi
 ·exact h _ (zd l i hi)
 ·rw[t8 l i hi];exact hB
def iR (a b:List Nat):Nat→List Nat
 |0=>a
 |k+1=>(iR a b k).set k (cf (iR a b k) k+cf b k)
theorem gW (a b:List Nat):∀k,(iR a b k).length=a.length
 |0=>rfl
 |k+1=>by rw[iR,List.length_set,gW a b k]
theorem Di (a b:List Nat):∀k j,k≤j→cf (iR a b k) j=cf a j
 |0,j,_=>rfl
 |k+1,j,h=>by rw[iR,fN _ _ _ _ (by omega),Di a b k j (by omega)]
theorem QB (a b:List Nat)(ha:a.length=5)(hb:b.length=5):fD (iR a b 5)=fD a+fD b:=by obtain⟨a0,a1,a2,a3,a4,rfl⟩:=wu a ha;obtain⟨b0,b1,b2,b3,b4,rfl⟩:=wu b hb;show fD [a0+b0,a1+b1,a2+b2,a3+b3,a4+b4]=_;simp only[fD];omega
theorem Kp (a b:List Nat)(ha:a.length=5)(hb:b.length=5)(h1:∀x∈a,x<67108864)(h2:∀x∈b,x<67108864):∀x∈iR a b 5,x<134217728:=by obtain⟨a0,a1,a2,a3,a4,rfl⟩:=wu a ha;obtain⟨b0,b1,b2,b3,b4,rfl⟩:=wu b hb;show∀x∈[a0+b0,a1+b1,a2+b2,a3+b3,a4+b4],x<134217728;simp at h1 h2⊢;omega
def iW (l:List Nat):Nat→List Nat×Nat
 |0=>(l,0)
 |k+1=>((iW l k).1.set k ((cf (iW l k).1 k+(iW l k).2) % 67108864),(cf (iW l k).1 k+(iW l k).2)/67108864)
def pQ (l:List Nat):List Nat:=(iW l 5).1.set 0 (cf (iW l 5).1 0+5*(iW l 5).2)
theorem pR (l:List Nat):∀k,(iW l k).1.length=l.length
 |0=>rfl
 |k+1=>by rw[iW,List.length_set,pR l k]
theorem Dj (l:List Nat):∀k j,k≤j→cf (iW l k).1 j=cf l j
 |0,j,_=>rfl
 |k+1,j,h=>by rw[iW,fN _ _ _ _ (by omega),Dj l k j (by omega)]
theorem yk (l:List Nat)(h:∀x∈l,x<4611686018427387904):∀k,(iW l k).2<137438953472
 |0=>by simp[iW]
 |k+1=>by
  have h1:=yk l h k;have h2:cf (iW l k).1 k<4611686018427387904:=by rw[Dj l k k (di _)];exact dC l _ (by omega) h k
  rw[iW];simp only;omega
theorem Kq (l:List Nat)(h:∀x∈l,x<4611686018427387904):∀k,∀x∈(iW l k).1,x<4611686018427387904
 |0=>h
 |k+1=>by
  intro x hx;rw[iW] at hx
  rcases List.mem_or_eq_of_mem_set hx with h1|h1
  ·exact Kq l h k x h1
  ·rw[h1];omega
theorem j4 (l:List Nat):(pQ l).length=l.length:=by rw[pQ,List.length_set,pR]
theorem qa (a b c d e:Nat):∃o0 o1 o2 o3 o4:Nat,o0=a/67108864∧o1=(b+o0)/67108864∧o2=(c+o1)/67108864∧o3=(d+o2)/67108864∧o4=(e+o3)/67108864∧
  pQ [a,b,c,d,e]=[a % 67108864+5*o4,(b+o0) % 67108864,(c+o1) % 67108864,(d+o2) % 67108864,(e+o3) % 67108864]:=by
 refine⟨_,_,_,_,_,rfl,rfl,rfl,rfl,rfl,?_⟩;simp[pQ,iW,cf]
theorem MZ (l:List Nat)(h:l.length=5)(hl:∀x∈l,x<4611686018427387904):∀x∈pQ l,x<4611686018427387904:=by obtain⟨a,b,c,d,e,rfl⟩:=wu l h;obtain⟨o0,o1,o2,o3,o4,h0,h1,h2,h3,h4,he⟩:=qa a b c d e;rw[he];simp at hl⊢;omega
def Ho (l:List Nat):Nat→List Nat
 |0=>l
 |t+1=>pQ (Ho l t)
theorem wy (l:List Nat):∀t,(Ho l t).length=l.length
 |0=>rfl
 |t+1=>by rw[Ho,j4,wy l t]
theorem Dk (l:List Nat)(h:l.length=5)(hl:∀x∈l,x<4611686018427387904):∀t,∀x∈Ho l t,x<4611686018427387904
 |0=>hl
 |t+1=>MZ _ (by rw[wy,h]) (Dk l h hl t)
theorem Dl (l:List Nat)(h:l.length=5):∃q,fD (pQ l)+gP*q=fD l:=by obtain⟨a,b,c,d,e,rfl⟩:=wu l h;obtain⟨o0,o1,o2,o3,o4,h0,h1,h2,h3,h4,he⟩:=qa a b c d e;refine⟨o4,?_⟩;rw[he];simp only[fD,gP];omega
theorem Ye (l:List Nat)(h:l.length=5)(hl:∀x∈l,x<4611686018427387904):∀x∈pQ (pQ (pQ l)),x<67108864:=by
 obtain⟨a,b,c,d,e,rfl⟩:=wu l h;obtain⟨o0,o1,o2,o3,o4,h0,h1,h2,h3,h4,he⟩:=qa a b c d e;rw[he];simp at hl;obtain⟨l0,l1,l2,l3,l4⟩:=hl;have b4:o4<137438953472:=by omega
 have m1:(b+o0) % 67108864<67108864:=Nat.mod_lt _ (by decide);have m2:(c+o1) % 67108864<67108864:=Nat.mod_lt _ (by decide);have m3:(d+o2) % 67108864<67108864:=Nat.mod_lt _ (by decide);have m4:(e+o3) % 67108864<67108864:=Nat.mod_lt _ (by decide);have m0:a % 67108864+5*o4<700000000000:=by omega
 generalize(b+o0) % 67108864=b' at m1⊢
 generalize(c+o1) % 67108864=c' at m2⊢
 generalize(d+o2) % 67108864=d' at m3⊢
 generalize(e+o3) % 67108864=e' at m4⊢
 generalize a % 67108864+5*o4=a' at m0⊢
 clear h0 h1 h2 h3 h4 he b4 l0 l1 l2 l3 l4;obtain⟨p0,p1,p2,p3,p4,h0,h1,h2,h3,h4,he⟩:=qa a' b' c' d' e';rw[he];have q0:p0≤10431:=by omega
 have q1:p1≤1:=by omega
 have q2:p2≤1:=by omega
 have q3:p3≤1:=by omega
 have q4:p4≤1:=by omega
 by_cases hp4:p4=0
 ·subst hp4;obtain⟨r0,r1,r2,r3,r4,g0,g1,g2,g3,g4,ge⟩:=qa (a' % 67108864+5*0) ((b'+p0) % 67108864) ((c'+p1) % 67108864) ((d'+p2) % 67108864) ((e'+p3) % 67108864);rw[ge];simp;omega
 ·have uX:p4=1:=by omega
  subst uX;have Bh:p3=1:=by omega
  have yM:p2=1:=by omega
  have uX:p1=1:=by omega
  obtain⟨r0,r1,r2,r3,r4,g0,g1,g2,g3,g4,ge⟩:=qa (a' % 67108864+5*1) ((b'+p0) % 67108864) ((c'+p1) % 67108864) ((d'+p2) % 67108864) ((e'+p3) % 67108864);rw[ge];have s0:r0≤1:=by omega
  have s1:r1=0:=by omega
  have s2:r2=0:=by omega
  have s3:r3=0:=by omega
  have s4:r4=0:=by omega
  simp;omega
def gA (o:List Nat)(x:Nat)(r:List Nat)(i:Nat):Nat→List Nat
 |0=>o
 |j+1=>if i+j<5 then(gA o x r i j).set (i+j) (cf (gA o x r i j) (i+j)+x*cf r j)
   else(gA o x r i j).set (i+j-5) (cf (gA o x r i j) (i+j-5)+5*x*cf r j)
def jd (n r:List Nat):Nat→List Nat
 |0=>[0,0,0,0,0]
 |i+1=>gA (jd n r i) (cf n i) r i 5
theorem ll (o:List Nat)(x:Nat)(r:List Nat)(i:Nat):∀j,(gA o x r i j).length=o.length
 |0=>rfl
 |j+1=>by rw[gA];split<;>rw[List.length_set,ll o x r i j]
theorem fO (n r:List Nat):∀i,(jd n r i).length=5
 |0=>rfl
 |i+1=>by rw[jd,ll,fO n r i]
theorem F7 (l:List Nat)(i x B:Nat)(h:∀y∈l,y≤B)(hx:x≤B):∀y∈l.set i x,y≤B:=by
 intro y hy
 rcases List.mem_or_eq_of_mem_set hy with h1|h1
 ·exact h y h1
 ·rw[h1];exact hx
theorem Hp (l:List Nat)(B:Nat)(h:∀x∈l,x≤B)(i:Nat):cf l i≤B:=by
 rcases Nat.lt_or_ge i l.length with hi|hi
 ·exact h _ (zd l i hi)
 ·rw[t8 l i hi];omega
theorem F8 (x y:Nat)(hx:x<134217728)(hy:y<67108864):x*y≤9007199254740992:=by have:=Nat.mul_le_mul (Nat.le_of_lt hx) (Nat.le_of_lt hy);omega
theorem AJ (o:List Nat)(x:Nat)(r:List Nat)(i B:Nat)(hx:x<134217728)(hr:∀y∈r,y<67108864)(ho:∀y∈o,y≤B):∀j,∀y∈gA o x r i j,y≤B+j*45035996273704960
 |0=>by simpa[gA] using ho
 |j+1=>by
  have ih:=AJ o x r i B hx hr ho j;have ih':∀y∈gA o x r i j,y≤B+(j+1)*45035996273704960:=λy hy=>kx (ih y hy) (Nat.add_le_add_left (Nat.mul_le_mul_right _ (Nat.le_succ j)) B);have hm:=F8 x (cf r j) hx (dC r _ (by omega) hr j);have LU:5*x*cf r j=5*(x*cf r j):=Nat.mul_assoc _ _ _;rw[gA];split
  ·refine F7 _ _ _ _ ih' ?_;have:=Hp _ _ ih (i+j);rw[Nat.succ_mul];omega
  ·refine F7 _ _ _ _ ih' ?_;have:=Hp _ _ ih (i+j-5);rw[LU];rw[Nat.succ_mul];omega
theorem zE (n r:List Nat)(hn:∀y∈n,y<134217728)(hr:∀y∈r,y<67108864):∀i,∀y∈jd n r i,y≤i*225179981368524800
 |0=>by simp[jd]
 |i+1=>by have ih:=zE n r hn hr i;have:=AJ (jd n r i) (cf n i) r i _ (dC n _ (by omega) hn i) hr ih 5;intro y hy;rw[jd] at hy;have:=this y hy;omega
theorem TR (i j:Nat)(h:5≤i+j):67108864^i*67108864^j=67108864^(i+j-5)*(gP+5):=by rw[←Nat.pow_add,show i+j=(i+j-5)+5 by omega,Nat.pow_add];rfl
theorem Dm (o:List Nat)(x:Nat)(r:List Nat)(i:Nat)(ho:o.length=5)(hi:i<5)(hr:r.length=5):∀j,j≤5→∃q,fD (gA o x r i j)+gP*q=fD o+67108864^i*x*fD (r.take j)
 |0,_=>⟨0,by simp[gA,fD]⟩
 |j+1,hj=>by
  obtain⟨q,hq⟩:=Dm o x r i ho hi hr j (by omega);have hlen:(gA o x r i j).length=5:=by rw[ll,ho]
  rw[H4 r j (by omega),gA,Nat.mul_add,←Nat.add_assoc,←hq];split
  ·rename_i dN
   refine⟨q,?_⟩;rw[Dh _ _ _ (by omega),Nat.pow_add];have e:67108864^i*67108864^j*(x*cf r j)=67108864^i*x*(67108864^j*cf r j):=by rw[Nat.mul_assoc,Nat.mul_assoc,Nat.mul_left_comm (67108864^j) x (cf r j)]
   omega
  ·rename_i O'
   refine⟨q+67108864^(i+j-5)*(x*cf r j),?_⟩;rw[Dh _ _ _ (by omega)];have e:67108864^i*x*(67108864^j*cf r j)=67108864^(i+j-5)*(x*cf r j)*gP+5*(67108864^(i+j-5)*(x*cf r j)):=by
    have e1:67108864^i*x*(67108864^j*cf r j)=67108864^i*67108864^j*(x*cf r j):=by rw[Nat.mul_assoc,Nat.mul_assoc,Nat.mul_left_comm (67108864^j) x (cf r j)]
    rw[e1,TR i j (by omega)];generalize 67108864^(i+j-5)=A
    generalize x*cf r j=B
    generalize gP=C
    rw[Nat.mul_assoc,Nat.mul_comm (C+5) B,←Nat.mul_assoc,Nat.mul_add,Nat.mul_comm (A*B) 5]
   have e2:67108864^(i+j-5)*(5*x*cf r j)=5*(67108864^(i+j-5)*(x*cf r j)):=by rw[Nat.mul_assoc 5,Nat.mul_left_comm]
   rw[e,e2,Nat.mul_add,Nat.mul_comm gP (67108864^(i+j-5)*(x*cf r j))];omega
theorem F9 (n r:List Nat)(hn:n.length=5)(hr:r.length=5):∀i,i≤5→∃q,fD (jd n r i)+gP*q=fD (n.take i)*fD r
 |0,_=>⟨0,by simp[jd,fD]⟩
 |i+1,hi=>by obtain⟨q,hq⟩:=F9 n r hn hr i (by omega);obtain⟨q2,Ag⟩:=Dm (jd n r i) (cf n i) r i (fO n r i) (by omega) hr 5 (by omega);have e5:r.take 5=r:=su (by omega);rw[e5] at Ag;refine⟨q+q2,?_⟩;rw[jd,H4 n i (by omega),Nat.add_mul,←hq,Nat.mul_add];omega
def BW (n r:List Nat):List Nat:=pQ (pQ (pQ (jd n r 5)))
theorem Bn (n r:List Nat):(BW n r).length=5:=by simp only[BW,j4,fO]
theorem Yf (n r:List Nat)(hn:∀y∈n,y<134217728)(hr:∀y∈r,y<67108864):∀x∈BW n r,x<67108864:=
 Ye _ (fO n r 5) (λx hx=>by have:=zE n r hn hr 5 x hx;omega)
theorem TS (n r:List Nat)(hn:n.length=5)(hr:r.length=5):fD (BW n r) % gP=fD n*fD r % gP:=by
 obtain⟨q,hq⟩:=F9 n r hn hr 5 (by omega);obtain⟨q1,h1⟩:=Dl (jd n r 5) (fO n r 5);obtain⟨q2,h2⟩:=Dl (pQ (jd n r 5)) (by rw[j4,fO]);obtain⟨q3,h3⟩:=Dl (pQ (pQ (jd n r 5))) (by rw[j4,j4,fO]);rw[su (by omega)] at hq;have e:fD n*fD r=fD (BW n r)+gP*(q3+q2+q1+q):=by rw[←hq,←h1,←h2,←h3];simp only[BW,Nat.mul_add];omega
 rw[e,Nat.add_mul_mod_self_left]
def nZ (N:Nat):List Nat:=(List.range 5).map λi=>N/67108864^i % 67108864
theorem kn (N:Nat):(nZ N).length=5:=by simp[nZ]
theorem zF (N:Nat):∀x∈nZ N,x<67108864:=by intro x hx;simp only[nZ,List.mem_map] at hx;obtain⟨i,_,rfl⟩:=hx;exact Nat.mod_lt _ (by decide)
theorem F' (N:Nat)(h:N<2^130):fD (nZ N)=N:=by
 have e:nZ N=[N % 67108864,N/67108864 % 67108864,N/4503599627370496 % 67108864,N/302231454903657293676544 % 67108864,N/20282409603651670423947251286016 % 67108864]:=by simp[nZ,List.range_succ]
 rw[e];simp only[fD];omega
def nv (n:Nat):Value:=.int .u64 (n:Int)
def sR (w:aw)(g:Nat)(l:List Nat):Prop:=w.heap[g]?=some (.cells (l.map nv).toArray 191 (0,0))
theorem sR.set {w:aw}{g:Nat}{l:List Nat}(h:sR w g l)(i:Nat)(x:Nat):sR (w.setCell ⟨g,i,none⟩ (nv x)) g (l.set i x):=by have:=heap_setCell_same w g i _ _ (nv x) h;unfold sR;rw[this,List.map_set];simp
theorem sR.other {w:aw}{g g':Nat}{l:List Nat}(h:sR w g l)(eL:g≠g')(i:Nat)(v:Value):sR (w.setCell ⟨g',i,none⟩ v) g l:=by unfold sR;rw[heap_setCell_other w ⟨g',i,none⟩ g v eL];exact h
theorem sR.drew {w:aw}{g:Nat}{l:List Nat}(h:sR w g l):sR w.drew g l:=h
theorem sR.word {w:aw}{g:Nat}{l:List Nat}(h:sR w g l)(i:Nat)(hi:i<l.length):
  w.cell? ⟨g,i,none⟩=some (.int .u64 (cf l i:Int))∧w.frozen? ⟨g,i,none⟩=false:=by
 refine⟨?_,frozen_of_row w g i _ _ h⟩;rw[cell_of_row w g i _ _ (0,0) h,jk l i hi];simp[hi,nv]
theorem sR.lt {w:aw}{g:Nat}{l:List Nat}(h:sR w g l):g<w.heap.size:=(gD.1 h).1
theorem sR.later {w w':aw}{g:Nat}{l:List Nat}(h:sR w g l)(hb:Below w.heap.size w w'):sR w' g l:=by unfold sR;rw[hb.block g h.lt];exact h
theorem mn (l:List Nat):∀u∈l.map nv,u.oneCell'=true:=by intro u hu;simp only[List.mem_map] at hu;obtain⟨c,_,rfl⟩:=hu;rfl
theorem lp (l:List Nat)(hl:l.length=5):(prog.info? 191).map (·.size)=some (l.map nv).toArray.size:=by
 have e1:(prog.info? 191).map (·.size)=some 5:=by kernel_rfl
 rw[e1];simp[hl]
structure NB (w:aw)(g r:Nat)(l:List Nat)(W:aw):Prop where
 now:sR W g l
 res:sR W r [0,0,0,0,0]
 ne:g≠r
 bg:w.heap.size≤g
 br:w.heap.size≤r
 aY:Below w.heap.size w W
theorem NB.set {w W:aw}{g r:Nat}{l:List Nat}(h:NB w g r l W)(i x:Nat):NB w g r (l.set i x) (W.setCell ⟨g,i,none⟩ (nv x)):=by have hg:=h.bg;exact⟨h.now.set i x,h.res.other (Ne.symm h.ne) i _,h.ne,h.bg,h.br,h.aY.setCell (p:=⟨g,i,none⟩) (by show _≤g;omega) _⟩
theorem NB.QC (w:aw)(l:List Nat):NB w w.heap.size (w.heap.size+1) l ((w.alloc (.cells (l.map nv).toArray 191)).alloc (.cells #[.int .u64 0,.int .u64 0,.int .u64 0,.int .u64 0,.int .u64 0] 191)):=by
 refine⟨?_,?_,by omega,by omega,by omega,?_⟩
 ·unfold sR;rw[jE _ _ _ (by simp)];exact eC w _
 ·have:=eC (w.alloc (.cells (l.map nv).toArray 191)) (.cells #[.int .u64 0,.int .u64 0,.int .u64 0,.int .u64 0,.int .u64 0] 191);rw[fx] at this;exact this
 ·exact eF.alloc (by simp) _
theorem aag (n:Nat)(h:n<18446744073709551616):bits .and .u64 (n:Int) 67108863=((n % 67108864:Nat):Int):=by
 have e:(BitVec.ofInt 64 (n:Int)&&&BitVec.ofInt 64 67108863).toNat=n % 67108864:=by
  rw[BitVec.toNat_and,BitVec.toNat_ofInt];have h7:(BitVec.ofInt 64 67108863).toNat=2^26-1:=by decide
  rw[h7,Nat.and_two_pow_sub_one_eq_mod];omega
 show IntKind.u64.wrap ((BitVec.ofInt 64 (n:Int)&&&BitVec.ofInt 64 67108863).toNat:Int)=_;rw[e,IntKind.wrap_u64];omega
theorem QD (l:List Nat)(w:aw)(hl:l.length=5)(hb:∀x∈l,x<4611686018427387904):
  Calls prog 166 #[.agg (l.map nv).toArray] w λe w'=>e= .returned (.agg ((pQ l).map nv).toArray)∧Below w.heap.size w w':=by
 go_enter func166,ntmps166
 go_wp2
 refine bY (P:=Code.wp prog _ _ _) (R:=λW=>ae (NB w w.heap.size (w.heap.size+1) l W)) _ (NB.QC w l) ?_;intro W0 ny;generalize hg:w.heap.size=g at ny⊢
 generalize hr:g+1=r at ny⊢
 go_loopw [3,5] (λo i wr=>∃k x:Nat,k≤5∧i= .int .i64 k∧o= .int .u64 (x:Int)∧ae ((iW l k).2=x)∧ae (NB w g r (iW l k).1 wr)) (λ_ i _=>5-(intOf i).toNat)
 case atStart=>exact⟨0,0,by omega,rfl,rfl,rfl,ny⟩
 case round=>
  clear ny;obtain⟨k,x,hk,rfl,rfl,hx,hN⟩:=hrel
  by_cases dN:k<5
  ·have sM:(k:Int)<5:=by omega
   obtain⟨a,ha⟩:=aW (cf (iW l k).1 k);obtain⟨cc,fr⟩:=hN.out.now.word k (by rw[pR];omega);rw[ha] at cc;have jb:=(hN.out.set k (a+x)).set k ((a+x) % 67108864);rw[List.set_set] at jb;have yR:ae (NB w g r (iW l (k+1)).1 ((wr.setCell ⟨g,k,none⟩ (.int .u64 ((a+x:Nat):Int))).setCell ⟨g,k,none⟩ (.int .u64 (((a+x) % 67108864:Nat):Int)))):=by rw[iW,ha,hx.out];exact jb
   have LV:=yk l hb k;rw[hx.out] at LV;have Fm:a<4611686018427387904:=by rw[←ha,Dj l k k (di _)];exact dC l _ (by omega) hb k
   have e1:IntKind.u64.wrap ((a:Int)+(x:Int))=((a+x:Nat):Int):=by rw[IntKind.wrap_u64];omega
   have E1:ae (IntKind.u64.wrap ((a:Int)+(x:Int))=((a+x:Nat):Int)):=e1;have E2:ae (bits .and .u64 ((a+x:Nat):Int) 67108863=(((a+x) % 67108864:Nat):Int)):=aag (a+x) (by omega);have E3:ae ((iW l (k+1)).2=(a+x)/67108864):=by rw[iW,ha,hx.out];rfl
   clear hN jb e1 hx ha LV Fm
   go_wp2
   rw[E1.out,E2.out];exact⟨⟨k+1,(a+x)/67108864,by omega,by go_num,by congr 1<;>omega,E3,yR⟩,by simp[intOf];omega⟩
  ·have ek:k=5:=by omega
   subst ek;have G':¬((5:Nat):Int)<5:=by omega
   obtain⟨a,ha⟩:=aW (cf (iW l 5).1 0);obtain⟨cc,fr⟩:=hN.out.now.word 0 (by rw[pR];omega);rw[ha] at cc;have jb:=hN.out.set 0 (a+5*x);have LV:=yk l hb 5;rw[hx.out] at LV;have Fm:a<4611686018427387904:=by rw[←ha];exact dC _ _ (by omega) (Kq l hb 5) 0
   have e1:IntKind.u64.wrap ((a:Int)+5*(x:Int))=((a+5*x:Nat):Int):=by rw[IntKind.wrap_u64];omega
   obtain⟨W1,fg⟩:=aW (wr.setCell ⟨g,0,none⟩ (.int .u64 (IntKind.u64.wrap ((a:Int)+5*(x:Int)))));have Je:NB w g r (pQ l) W1:=by rw[pQ,ha,hx.out,←fg,e1];exact jb
   obtain⟨m,hm⟩:=aW (pQ l);have rP:m.length=5:=by rw[←hm,j4,hl]
   rw[hm] at Je;have HM:ae (pQ l=m):=hm;have HN:ae (NB w g r m W1):=Je;have fU:ae (wr.setCell ⟨g,0,none⟩ (.int .u64 (IntKind.u64.wrap ((a:Int)+5*(x:Int))))=W1):=fg;have IB:ae ((prog.info? 191).map (·.size)=some (m.map nv).toArray.size):=lp m rP;have xA:=aL W1 r _ _ (m.map nv) HN.o.res (by simp[rP]) (mn m);have bh:=setRow_heap W1 r _ (m.map nv).toArray _ _ HN.o.res;have bR:ae (Below w.heap.size w (W1.setRow r (m.map nv).toArray)):=below_setRow HN.o.aY HN.o.br _;obtain⟨W4,fj⟩:=aW (W1.setRow r (m.map nv).toArray);rw[fj] at xA bh bR;have cY:ae (W4.heap[r]?=some (.cells (m.map nv).toArray 191 (0,0))):=bh;clear hN jb Je fg bh fj hx ha hm Fm e1 hb
   go_wp2_with (first|(rw[fU.o];refine wpList_load_row rfl 191 _ rfl g rfl 191 _ (0,0) _ HN.o.now underlying191 rfl IB.out ?_))
   (try simp only[nu,Exit.then])
   refine bodyPost_ret (results_cell_row rfl _ _ r 191 _ (0,0) _ rfl cY.o underlying191 rfl IB.out) rfl ?_;exact⟨by rw[HM.o],by rw[←hg];exact bR.o⟩
structure N3 (w:aw)(g h r:Nat)(l m:List Nat)(W:aw):Prop where
 now:sR W g l
 Pa:sR W h m
 res:sR W r [0,0,0,0,0]
 nh:h≠g
 nr:r≠g
 bg:w.heap.size≤g
 br:w.heap.size≤r
 aY:Below w.heap.size w W
theorem N3.set {w W:aw}{g h r:Nat}{l m:List Nat}(t:N3 w g h r l m W)(i x:Nat):N3 w g h r (l.set i x) m (W.setCell ⟨g,i,none⟩ (nv x)):=by have hg:=t.bg;exact⟨t.now.set i x,t.Pa.other t.nh i _,t.res.other t.nr i _,t.nh,t.nr,t.bg,t.br,t.aY.setCell (p:=⟨g,i,none⟩) (by show _≤g;omega) _⟩
theorem N3.drew {w W:aw}{g h r:Nat}{l m:List Nat}(t:N3 w g h r l m W):N3 w g h r l m W.drew:=
 ⟨t.now,t.Pa,t.res,t.nh,t.nr,t.bg,t.br,t.aY.drew⟩
theorem Dn (w:aw)(l m:List Nat):sR ((w.alloc (.cells (l.map nv).toArray 191)).alloc (.cells (m.map nv).toArray 191)) (w.heap.size+1) m∧sR ((w.alloc (.cells (l.map nv).toArray 191)).alloc (.cells (m.map nv).toArray 191)) w.heap.size l:=by
 constructor
 ·have:=eC (w.alloc (.cells (l.map nv).toArray 191)) (.cells (m.map nv).toArray 191);rw[fx] at this;exact this
 ·unfold sR;rw[jE _ _ _ (by simp)];exact eC w _
theorem sR.alloc {w:aw}{g:Nat}{l:List Nat}(h:sR w g l)(o:Obj):sR (w.alloc o) g l:=by unfold sR;rw[jE _ _ _ h.lt];exact h
theorem N3.new (w:aw)(l m:List Nat):N3 w w.heap.size (w.heap.size+1) (w.heap.size+1+1) l m (((w.alloc (.cells (l.map nv).toArray 191)).alloc (.cells (m.map nv).toArray 191)).alloc (.cells #[.int .u64 0,.int .u64 0,.int .u64 0,.int .u64 0,.int .u64 0] 191)):=by
 obtain⟨h1,h2⟩:=Dn w l m;refine⟨h2.alloc _,h1.alloc _,?_,by omega,by omega,by omega,by omega,?_⟩
 ·have:=eC ((w.alloc (.cells (l.map nv).toArray 191)).alloc (.cells (m.map nv).toArray 191)) (.cells #[.int .u64 0,.int .u64 0,.int .u64 0,.int .u64 0,.int .u64 0] 191);rw[fx,fx] at this;exact this
 ·exact(eF.alloc (by simp) _).alloc (by simp<;>omega) _
theorem Yg (l m:List Nat)(w:aw)(hl:l.length=5)(hm:m.length=5)(hb:∀x∈l,x<4611686018427387904)(hc:∀x∈m,x<4611686018427387904):
  Calls prog 158 #[.agg (l.map nv).toArray,.agg (m.map nv).toArray] w λe w'=>e= .returned (.agg ((iR l m 5).map nv).toArray)∧Below w.heap.size w w':=by
 go_enter func158,ntmps158
 go_wp2
 refine bY (P:=Code.wp prog _ _ _) (R:=λW=>ae (N3 w w.heap.size (w.heap.size+1) (w.heap.size+1+1) l m W)) _ (N3.new w l m) ?_;intro W0 ny;generalize hg:w.heap.size=g at ny⊢
 generalize hh:g+1=h at ny⊢
 generalize hr:h+1=r at ny⊢
 go_loopw [6] (λi wr=>∃k:Nat,k≤5∧i= .int .i64 k∧ae (N3 w g h r (iR l m k) m wr)) (λi _=>5-(intOf i).toNat)
 case atStart=>exact⟨0,by omega,rfl,ny⟩
 case round=>
  clear ny;obtain⟨k,hk,rfl,hN⟩:=hrel
  by_cases dN:k<5
  ·have sM:(k:Int)<5:=by omega
   obtain⟨a,ha⟩:=aW (cf (iR l m k) k);obtain⟨b,cU⟩:=aW (cf m k);obtain⟨W1,fg⟩:=aW (wr.drew);have jb:=hN.out.drew;rw[fg] at jb;obtain⟨c1,f1⟩:=jb.now.word k (by rw[gW];omega);obtain⟨c2,f2⟩:=jb.Pa.word k (by omega);rw[ha] at c1;rw[cU] at c2;have Fm:a<4611686018427387904:=by rw[←ha,Di l m k k (di _)];exact dC l _ (by omega) hb k
   have BN:b<4611686018427387904:=by rw[←cU];exact dC m _ (by omega) hc k
   obtain⟨W2,fV⟩:=aW (W1.setCell ⟨g,k,none⟩ (.int .u64 ((a:Int)+(b:Int))));have yl:ae (N3 w g h r (iR l m (k+1)) m W2):=by rw[iR,ha,cU,←fV];exact jb.set k (a+b)
   have E1:ae (IntKind.u64.wrap ((a:Int)+(b:Int))=(a:Int)+(b:Int)):=by show _=_;rw[IntKind.wrap_u64];omega
   have fU:ae (wr.drew=W1):=fg;have fw:ae (W1.setCell ⟨g,k,none⟩ (.int .u64 ((a:Int)+(b:Int)))=W2):=fV;clear hN jb fg fV ha cU
   go_wp2
   refine ah (G:=bX) (by kernel_rfl) bX.refl bX.trans (by kernel_rfl) [(0,true),(1,true),(2,true),(3,true),(4,true),(5,true),(6,true),(7,true),(8,false)] rfl (by kernel_rfl) ?_;intro KK cA;rw[fU.o]
   iterate 8 (refine aa rfl (by rfl) (v:=?_) ?_ ?_;rotate_left;(rintro w' rfl;go_simp;with_reducible rfl);go_simp)
   refine bp rfl (by rfl) (w':=W2) (by rw[←fw.o];go_simp;rw[E1.out]) (by kernel_rfl) ?_;go_simp
   refine az cA ?_
   go_wp2
   exact⟨⟨k+1,by omega,by go_num,yl⟩,by simp[intOf];omega⟩
  ·have ek:k=5:=by omega
   subst ek;have G':¬((5:Nat):Int)<5:=by omega
   obtain⟨s,hs⟩:=aW (iR l m 5);have Ae:s.length=5:=by rw[←hs,gW,hl]
   rw[hs] at hN;have HS:ae (iR l m 5=s):=hs;have IB:ae ((prog.info? 191).map (·.size)=some (s.map nv).toArray.size):=lp s Ae;have xA:=aL wr r _ _ (s.map nv) hN.out.res (by simp[Ae]) (mn s);have bh:=setRow_heap wr r _ (s.map nv).toArray _ _ hN.out.res;have bR:ae (Below w.heap.size w (wr.setRow r (s.map nv).toArray)):=below_setRow hN.out.aY hN.out.br _;obtain⟨W4,fj⟩:=aW (wr.setRow r (s.map nv).toArray);rw[fj] at xA bh bR;have cY:ae (W4.heap[r]?=some (.cells (s.map nv).toArray 191 (0,0))):=bh;clear bh fj hs hb hc
   go_wp2_with (first|(refine wpList_load_row rfl 191 _ rfl g rfl 191 _ (0,0) _ hN.out.now underlying191 rfl IB.out ?_))
   (try simp only[nu,Exit.then])
   refine bodyPost_ret (results_cell_row rfl _ _ r 191 _ (0,0) _ rfl cY.o underlying191 rfl IB.out) rfl ?_;exact⟨by rw[HS.o],by rw[←hg];exact bR.o⟩
theorem N3.alB (w:aw)(n l:List Nat):N3 w (w.heap.size+1+1+1) (w.heap.size+1) (w.heap.size+1+1) [0,0,0,0,0] l ((((w.alloc (.cells (n.map nv).toArray 191)).alloc (.cells (l.map nv).toArray 191)).alloc (.cells #[.int .u64 0,.int .u64 0,.int .u64 0,.int .u64 0,.int .u64 0] 191)).alloc (.cells #[.int .u64 0,.int .u64 0,.int .u64 0,.int .u64 0,.int .u64 0] 191)):=by have h0:=N3.new w n l;refine⟨?_,h0.Pa.alloc _,h0.res.alloc _,by omega,by omega,by omega,by omega,h0.aY.alloc (by simp<;>omega) _⟩;have:=eC (((w.alloc (.cells (n.map nv).toArray 191)).alloc (.cells (l.map nv).toArray 191)).alloc (.cells #[.int .u64 0,.int .u64 0,.int .u64 0,.int .u64 0,.int .u64 0] 191)) (.cells #[.int .u64 0,.int .u64 0,.int .u64 0,.int .u64 0,.int .u64 0] 191);rw[fx,fx,fx] at this;exact this
theorem N3.later {w W W':aw}{g h r:Nat}{l m:List Nat}(t:N3 w g h r l m W)(hb:Below W.heap.size W W'):N3 w g h r l m W':=
 ⟨t.now.later hb,t.Pa.later hb,t.res.later hb,t.nh,t.nr,t.bg,t.br,t.aY.trans (hb.mono t.aY.size)⟩
theorem N3.put {w W:aw}{g h r:Nat}{l m:List Nat}(t:N3 w g h r l m W)(l':List Nat):N3 w g h r l' m (W.setRow g (l'.map nv).toArray):=by
 have hg:=t.bg;refine⟨setRow_heap W g _ _ _ _ t.now,?_,?_,t.nh,t.nr,t.bg,t.br,below_setRow t.aY hg _⟩
 ·unfold sR;rw[setRow_other _ _ _ _ t.nh];exact t.Pa
 ·unfold sR;rw[setRow_other _ _ _ _ t.nr];exact t.res
theorem QE (n:List Nat)(i:Nat)(hi:i<n.length):(n.map nv).toArray[i]?=some (.int .u64 (cf n i:Int)):=by rw[jk n i hi];simp[hi,nv]
theorem xP (w:aw)(n:List Nat)(i:Nat)(hn:n.length=5)(hi:i<5):(Instr.index 191 (.agg (n.map nv).toArray) (.int .i64 (i:Int))).run prog w= .ok (.int .u64 (cf n i:Int)) w:=by
 have hu:prog.underlying 191=some (.array 5 40):=underlying191;have he:prog.plainKey 40=true:=by kernel_rfl
 have hc:prog.cellsOf 40=1:=by kernel_rfl
 have p1:=run_part_plain (P:=prog) w he (xs:=(n.map nv).toArray) (off:=i*1) (v:=.int .u64 (cf n i:Int)) (by rw[Nat.mul_one];exact QE n i (by omega));rw[Nat.mul_one] at p1;simp[Instr.index,asIntOf,run_underlying hu,hi,go_sem];rw[List.getElem?_eq_getElem (by omega),jk n i (by omega)];rfl
theorem QF (n r:List Nat)(w:aw)(hn:n.length=5)(hr:r.length=5)(hb:∀x∈n,x<134217728)(hc:∀x∈r,x<67108864):
  Calls prog 160 #[.agg (n.map nv).toArray,.agg (r.map nv).toArray] w λe w'=>e= .returned (.agg ((BW n r).map nv).toArray)∧Below w.heap.size w w':=by
 have IN:ae ((prog.info? 191).map (·.size)=some (n.map nv).toArray.size):=lp n hn;have IR:ae ((prog.info? 191).map (·.size)=some (r.map nv).toArray.size):=lp r hr;have hNn:=(((Dn w n r).2.alloc (.cells #[.int .u64 0,.int .u64 0,.int .u64 0,.int .u64 0,.int .u64 0] 191)).alloc (.cells #[.int .u64 0,.int .u64 0,.int .u64 0,.int .u64 0,.int .u64 0] 191));have HNn:ae _:=hNn;clear hNn
 go_enter func160,ntmps160
 go_wp2_with (first|(refine wpList_load_row rfl 191 _ rfl w.heap.size rfl 191 _ (0,0) _ HNn.o underlying191 rfl IN.out ?_))
 clear HNn;refine bY (P:=Code.wp prog _ _ _) (R:=λW=>ae (N3 w (w.heap.size+1+1+1) (w.heap.size+1) (w.heap.size+1+1) [0,0,0,0,0] r W)) _ (N3.alB w n r) ?_;intro W0 ny;generalize w.heap.size+1+1+1=g at ny⊢
 generalize w.heap.size+1+1=q at ny⊢
 generalize w.heap.size+1=h at ny⊢
 go_loopw [11] (λi wr=>∃k:Nat,k≤5∧i= .int .i64 k∧ae (N3 w g h q (jd n r k) r wr)) (λi _=>5-(intOf i).toNat)
 case atStart=>exact⟨0,by omega,rfl,ny⟩
 case round=>
  clear ny;obtain⟨k,hk,rfl,hN⟩:=hrel
  by_cases dN:k<5
  ·have sM:(k:Int)<5:=by omega
   obtain⟨x,hx⟩:=aW (cf n k);have TU:=xP wr n k hn dN;rw[hx] at TU
   go_wp2_with (first|(refine wpList_load_row rfl 191 _ rfl h rfl 191 _ (0,0) _ hN.out.Pa underlying191 rfl IR.out ?_))
   clear TU;have HO:ae (N3 w g h q (gA (jd n r k) x r k 0) r wr):=hN;clear hN
   go_loopw [16] (λi wr=>∃j:Nat,j≤5∧i= .int .i64 j∧ae (N3 w g h q (gA (jd n r k) x r k j) r wr)) (λi _=>5-(intOf i).toNat)
   case atStart=>exact⟨0,by omega,rfl,HO⟩
   case round=>
    clear HO;obtain⟨j,hj,rfl,hN⟩:=hrel;have Dp:x<134217728:=by rw[←hx];exact dC n _ (by omega) hb k
    by_cases PW:j<5
    ·have tM:(j:Int)<5:=by omega
     obtain⟨y,hy⟩:=aW (cf r j);have hyb:y<67108864:=by rw[←hy];exact dC r _ (by omega) hc j
     have TU:=xP wr r j hr PW;rw[hy] at TU;have hle:=AJ (jd n r k) x r k _ Dp hc (zE n r hb hc k) j;have SY:=F8 x y Dp hyb
     by_cases hp:k+j<5
     ·obtain⟨p,hpe⟩:=aW (k+j);obtain⟨c,gi⟩:=aW (cf (gA (jd n r k) x r k j) p);obtain⟨cc,fr⟩:=hN.out.now.word p (by rw[ll,fO];omega);rw[gi] at cc;have rf:=Hp _ _ hle p;rw[gi] at rf;have hpi:(k:Int)+(j:Int)=(p:Int):=by omega
      have hp5:(p:Int)<5:=by omega
      have jb:=hN.out.set p (c+x*y);obtain⟨z,hz⟩:=aW (x*y);have hzi:(x:Int)*(y:Int)=(z:Int):=by rw[←hz];simp
      rw[hz] at SY jb;have hzb:z<18446744073709551616:=by omega
      have alC:c+z<18446744073709551616:=by omega
      have yR:ae (N3 w g h q (gA (jd n r k) x r k (j+1)) r (wr.setCell ⟨g,p,none⟩ (.int .u64 ((c:Int)+(z:Int))))):=by rw[gA,if_pos hp,hpe,gi,hy,hz];exact jb
      clear hN jb hle hz rf
      go_wp2
      exact⟨⟨j+1,by omega,by go_num,yR⟩,by simp[intOf];omega⟩
     ·obtain⟨p0,ash⟩:∃p,k+j=p:=⟨_,rfl⟩;obtain⟨p,hpe⟩:=aW (k+j-5);obtain⟨c,gi⟩:=aW (cf (gA (jd n r k) x r k j) p);obtain⟨cc,fr⟩:=hN.out.now.word p (by rw[ll,fO];omega);rw[gi] at cc;have rf:=Hp _ _ hle p;rw[gi] at rf;have hpi:(k:Int)+(j:Int)=(p0:Int):=by omega
      have hp5:¬(p0:Int)<5:=by omega
      have asi:(p0:Int)-5=(p:Int):=by omega
      have asj:(p:Int)<5:=by omega
      have jb:=hN.out.set p (c+5*x*y);obtain⟨z,hz⟩:=aW (5*x*y);have hz5:z=5*(x*y):=by rw[←hz];exact Nat.mul_assoc _ _ _
      have hzi:5*(x:Int)*(y:Int)=(z:Int):=by rw[←hz];simp
      rw[hz] at jb;have hzb:z<18446744073709551616:=by omega
      have alC:c+z<18446744073709551616:=by omega
      have yR:ae (N3 w g h q (gA (jd n r k) x r k (j+1)) r (wr.setCell ⟨g,p,none⟩ (.int .u64 ((c:Int)+(z:Int))))):=by rw[gA,if_neg hp,hpe,gi,hy,hz];exact jb
      clear hN jb hle hz rf hz5 SY
      go_wp2
      exact⟨⟨j+1,by omega,by go_num,yR⟩,by simp[intOf];omega⟩
    ·have ej:j=5:=by omega
     subst ej;have hjr:¬((5:Nat):Int)<5:=by omega
     have yR:ae (N3 w g h q (jd n r (k+1)) r wr):=by rw[jd,hx];exact hN
     clear hN
     go_wp2
     exact⟨⟨k+1,by omega,by go_num,yR⟩,by simp[intOf];omega⟩
  ·have ek:k=5:=by omega
   subst ek;have G':¬((5:Nat):Int)<5:=by omega
   obtain⟨L,hL⟩:=aW (jd n r 5);have LX:L.length=5:=by rw[←hL,fO]
   have hLb:∀x∈L,x<4611686018427387904:=λx hx=>by have:=zE n r hb hc 5 x (by rw[hL];exact hx);omega
   have HL:ae (BW n r=Ho L 3):=by rw[BW,hL];rfl
   rw[hL] at hN;clear hL hb hc
   go_wp2
   go_loopw [48] (λi wr=>∃t:Nat,t≤3∧i= .int .i64 t∧ae (N3 w g h q (Ho L t) r wr)) (λi _=>3-(intOf i).toNat)
   case atStart=>exact⟨0,by omega,rfl,hN⟩
   case round=>
    clear hN;obtain⟨t,ht,rfl,hN⟩:=hrel;obtain⟨M,hM⟩:=aW (Ho L t);have vh:M.length=5:=by rw[←hM,wy,LX]
    have hMb:∀x∈M,x<4611686018427387904:=by rw[←hM];exact Dk L LX hLb t
    rw[hM] at hN;have IM:ae ((prog.info? 191).map (·.size)=some (M.map nv).toArray.size):=lp M vh
    by_cases rp:t<3
    ·have hti:(t:Int)<3:=by omega
     go_wp2_with (first|(refine wpList_load_row rfl 191 _ rfl g rfl 191 _ (0,0) _ hN.out.now underlying191 rfl IM.out ?_))
     refine(QD M wr vh hMb).mono ?_;rintro e w8 ⟨rfl,i9⟩;have Cq:=hN.out.later i9;have jc:(pQ M).length=5:=by rw[j4,vh]
     have xA:=aL w8 g _ _ ((pQ M).map nv) Cq.now (by simp[jc,vh]) (mn _);have HN9:ae (N3 w g h q (Ho L (t+1)) r (w8.setRow g ((pQ M).map nv).toArray)):=by rw[Ho,hM];exact Cq.put _
     clear hN Cq i9
     go_wp2
     exact⟨⟨t+1,by omega,by go_num,HN9⟩,by simp[intOf];omega⟩
    ·have et:t=3:=by omega
     subst et;have htr:¬((3:Nat):Int)<3:=by omega
     have HM:ae (BW n r=M):=HL.o.trans hM;have xA:=aL wr q _ _ (M.map nv) hN.out.res (by simp[vh]) (mn M);have bh:=setRow_heap wr q _ (M.map nv).toArray _ _ hN.out.res;have bR:ae (Below w.heap.size w (wr.setRow q (M.map nv).toArray)):=below_setRow hN.out.aY hN.out.br _;obtain⟨W4,fj⟩:=aW (wr.setRow q (M.map nv).toArray);rw[fj] at xA bh bR;have cY:ae (W4.heap[q]?=some (.cells (M.map nv).toArray 191 (0,0))):=bh;clear bh fj hM hMb hLb
     go_wp2_with (first|(refine wpList_load_row rfl 191 _ rfl g rfl 191 _ (0,0) _ hN.out.now underlying191 rfl IM.out ?_))
     (try simp only[nu,Exit.then])
     refine bodyPost_ret (results_cell_row rfl _ _ q 191 _ (0,0) _ rfl cY.o underlying191 rfl IM.out) rfl ?_;exact⟨by rw[HM.o],bR.o⟩
theorem TV (l:aO)(n:Nat):fc (l.take n)=fc l % 256^n:=by
 rcases Nat.lt_or_ge n l.length with h|h
 ·have e:=ji (l.take n) (l.drop n);rw[List.take_append_drop] at e;have hl:(l.take n).length=n:=by simp;omega
  have hb:=jD (l.take n);rw[hl] at e hb;rw[e,Nat.add_mul_mod_self_left,Nat.mod_eq_of_lt hb]
 ·rw[su h,Nat.mod_eq_of_lt (tV (jD l) (Nat.pow_le_pow_right (by decide) h))]
theorem TW (l:aO)(n:Nat):fc (l.drop n)=fc l/256^n:=by
 rcases Nat.lt_or_ge n l.length with h|h
 ·have e:=ji (l.take n) (l.drop n);rw[List.take_append_drop] at e;have hl:(l.take n).length=n:=by simp;omega
  have hb:=jD (l.take n);rw[hl] at e hb;rw[e,Nat.add_mul_div_left _ _ (Nat.pow_pos (by decide)),Nat.div_eq_of_lt hb,Nat.zero_add]
 ·rw[List.drop_eq_nil_of_le h,Nat.div_eq_of_lt (tV (jD l) (Nat.pow_le_pow_right (by decide) h))];rfl
theorem Pb (l:aO)(a n:Nat):fc (fQ l a n)=fc l/256^a % 256^n:=by rw[fQ,TV,TW]
theorem qs (l:aO)(a n:Nat):sW l false a n=fc l/256^a % 256^n:=by show fc (fQ l a n)=_;exact Pb l a n
theorem TX (l:aO)(k:Nat)(h:k<5):sW l false (26*k/8) 4/2^(26*k % 8) % 67108864=fc l/67108864^k % 67108864:=by
 rw[qs];generalize fc l=N
 have hk:k=0∨k=1∨k=2∨k=3∨k=4:=by omega
 rcases hk with rfl|rfl|rfl|rfl|rfl<;>simp<;>omega
def uC (N:Nat):Nat→List Nat
 |0=>[0,0,0,0,0]
 |k+1=>(uC N k).set k (N/67108864^k % 67108864)
theorem xQ (N:Nat):∀k,(uC N k).length=5
 |0=>rfl
 |k+1=>by rw[uC,List.length_set,xQ N k]
theorem M1 (N:Nat):uC N 5=nZ N:=by simp[uC,nZ,List.range_succ]
theorem QG (n:Nat):fc (cz n 0)=0:=by
 induction n with
 |zero=>rfl
 |succ n ih=>rw[List.replicate_succ,fc,ih];rfl
theorem M3 (l:aO)(n:Nat):fc (l++cz n 0)=fc l:=by rw[ji,QG];simp
theorem Kr (l:aO)(k:Nat):rG l k<2^130:=by
 have hlen:(fQ l (16*k) 16).length≤16:=by simp[fQ];omega
 have h:=jD (fQ l (16*k) 16);have h2:256^(fQ l (16*k) 16).length≤256^16:=Nat.pow_le_pow_right (by decide) hlen;unfold rG;rw[ji];have h3:fc [1]=1:=rfl;rw[h3];have h4:(256:Nat)^16=340282366920938463463374607431768211456:=by decide
 omega
theorem Ks (key:aO):iP key<2^130:=Nat.lt_trans (CJ key) (by decide)
theorem M4 (a b c d e:Nat)(ha:a<67108864)(hb:b<67108864)(hc:c<67108864)(hd:d<67108864)(he:e<67108864):
  a+b*67108864+c % 4096*4503599627370496=fD [a,b,c,d,e] % 18446744073709551616∧
  c/4096+d*16384+e % 16777216*1099511627776=fD [a,b,c,d,e]/18446744073709551616 % 18446744073709551616∧
  e/16777216=fD [a,b,c,d,e]/340282366920938463463374607431768211456:=by
 simp only[fD];refine⟨?_,?_,?_⟩<;>omega
theorem QH (V S:Nat)(hV:V<2^130):∃W,W=V % gP∧
  (V+5<2^130→W % 18446744073709551616=V % 18446744073709551616∧W/18446744073709551616 % 18446744073709551616=V/18446744073709551616 % 18446744073709551616)∧
  (2^130≤V+5→W % 18446744073709551616=(V+5) % 18446744073709551616∧W/18446744073709551616 % 18446744073709551616=(V+5)/18446744073709551616 % 18446744073709551616):=by
 refine⟨_,rfl,?_,?_⟩
 ·intro h;have e:V % gP=V:=Nat.mod_eq_of_lt (by unfold gP;omega);rw[e];exact⟨rfl,rfl⟩
 ·intro h;have e:V % gP=V+5-2^130:=by
   have:V=gP+(V+5-2^130):=by unfold gP;omega
   rw[this,Nat.add_mod_left,Nat.mod_eq_of_lt (by unfold gP;omega)];omega
  rw[e];omega
structure NT (w:aw)(a g r:Nat)(B:aO)(l:List Nat)(W:aw):Prop where
 src:dz W a 193 B
 now:sR W g l
 res:sR W r [0,0,0,0,0]
 na:a≠g
 nr:r≠g
 bg:w.heap.size≤g
 br:w.heap.size≤r
 aY:Below w.heap.size w W
theorem NT.set {w W:aw}{a g r:Nat}{B:aO}{l:List Nat}(t:NT w a g r B l W)(i x:Nat):NT w a g r B (l.set i x) (W.setCell ⟨g,i,none⟩ (nv x)):=by have hg:=t.bg;exact⟨t.src.other t.na i _,t.now.set i x,t.res.other t.nr i _,t.na,t.nr,t.bg,t.br,t.aY.setCell (p:=⟨g,i,none⟩) (by show _≤g;omega) _⟩
theorem dz.alloc {w:aw}{g:Nat}{t:TypeId}{l:aO}(h:dz w g t l)(o:Obj):dz (w.alloc o) g t l:=by unfold dz;rw[jE _ _ _ h.lt];exact h
theorem NT.new (w:aw)(B:aO):NT w w.heap.size (w.heap.size+1+1) (w.heap.size+1) B [0,0,0,0,0] (((w.alloc (.cells (B.map bv).toArray 193)).alloc (.cells #[.int .u64 0,.int .u64 0,.int .u64 0,.int .u64 0,.int .u64 0] 191)).alloc (.cells #[.int .u64 0,.int .u64 0,.int .u64 0,.int .u64 0,.int .u64 0] 191)):=by
 have h1:sR ((w.alloc (.cells (B.map bv).toArray 193)).alloc (.cells #[.int .u64 0,.int .u64 0,.int .u64 0,.int .u64 0,.int .u64 0] 191)) (w.heap.size+1) [0,0,0,0,0]:=by have:=eC (w.alloc (.cells (B.map bv).toArray 193)) (.cells #[.int .u64 0,.int .u64 0,.int .u64 0,.int .u64 0,.int .u64 0] 191);rw[fx] at this;exact this
 refine⟨((dz.new w _ B).alloc _).alloc _,?_,h1.alloc _,by omega,by omega,by omega,by omega,?_⟩
 ·have:=eC ((w.alloc (.cells (B.map bv).toArray 193)).alloc (.cells #[.int .u64 0,.int .u64 0,.int .u64 0,.int .u64 0,.int .u64 0] 191)) (.cells #[.int .u64 0,.int .u64 0,.int .u64 0,.int .u64 0,.int .u64 0] 191);rw[fx,fx] at this;exact this
 ·exact(eF.alloc (by simp) _).alloc (by simp<;>omega) _
theorem Kt (B:aO)(w:aw)(hB:B.length=17):
  Calls prog 156 #[.agg (B.map bv).toArray] w λe w'=>e= .returned (.agg ((nZ (fc B)).map nv).toArray)∧Below w.heap.size w w':=by
 go_enter func156,ntmps156
 go_wp2
 refine bY (P:=Code.wp prog _ _ _) (R:=λW=>ae (NT w w.heap.size (w.heap.size+1+1) (w.heap.size+1) B [0,0,0,0,0] W)) _ (NT.new w B) ?_;intro W0 ny;generalize w.heap.size+1+1=g at ny⊢
 generalize w.heap.size+1=r at ny⊢
 generalize ik:w.heap.size=b0 at ny⊢
 go_loopw [8] (λi wr=>∃k:Nat,k≤5∧i= .int .i64 k∧ae (NT w b0 g r B (uC (fc B) k) wr)) (λi _=>5-(intOf i).toNat)
 case atStart=>exact⟨0,by omega,rfl,ny⟩
 case round=>
  clear ny;obtain⟨k,hk,rfl,hN⟩:=hrel
  by_cases dN:k<5
  ·have sM:(k:Int)<5:=by omega
   obtain⟨p,hp⟩:=aW (26*k);obtain⟨q,hq⟩:=aW (p/8);obtain⟨s,hs⟩:=aW (p % 8);have e1:(k:Int)*26=(p:Int):=by omega
   have e2:(p:Int).tdiv 8=(q:Int):=by rw[Int.tdiv_eq_ediv_of_nonneg (by omega)];omega
   have Sl:(p:Int)/8=(q:Int):=by omega
   have e3:(p:Int).tmod 8=(s:Int):=by rw[Int.tmod_eq_emod_of_nonneg (by omega)];omega
   have e3':(p:Int) % 8=(s:Int):=by omega
   have ig:=TX B k dN;rw[hp,hq,hs] at ig;obtain⟨cc,fr⟩:=hN.out.now.word k (by rw[xQ];omega);have HB:ae (bj wr (some ⟨b0,0,none⟩) 17 B):=hN.out.src.nw 17 hB;have HN:ae (NT w b0 g r B (uC (fc B) k) wr):=hN;clear hN
   go_wp2_with fail
   refine(ue b0 0 17 17 q 4 false B wr (by unfold maxLen;omega) (by omega) HB.o (by omega) (by omega) (by omega)).mono ?_;rintro e w' ⟨rfl,rfl⟩;obtain⟨v,hv⟩:=aW (sW B false q 4);rw[hv] at ig⊢;have Sn:v<18446744073709551616:=by rw[←hv,qs];exact tV (Nat.mod_lt _ (by decide)) (by decide)
   have jm:s<8:=by omega
   have E1:ae ((v:Int)/2^s=((v/2^s:Nat):Int)):=by show _=_;simp
   have So:v/2^s<18446744073709551616:=Nat.lt_of_le_of_lt (Nat.div_le_self _ _) Sn;have E2:ae (bits .and .u64 ((v/2^s:Nat):Int) 67108863=((v/2^s % 67108864:Nat):Int)):=aag _ So;have yR:ae (NT w b0 g r B (uC (fc B) (k+1)) (w'.setCell ⟨g,k,none⟩ (.int .u64 ((v/2^s % 67108864:Nat):Int)))):=by rw[uC,←ig];exact HN.o.set k _
   clear HN So ig
   go_wp2
   rw[E1.out,E2.out];exact⟨⟨k+1,by omega,by go_num,yR⟩,by simp[intOf];omega⟩
  ·have ek:k=5:=by omega
   subst ek;have G':¬((5:Nat):Int)<5:=by omega
   rw[M1] at hN;obtain⟨M,hM⟩:=aW (nZ (fc B));have vh:M.length=5:=by rw[←hM,kn]
   rw[hM] at hN;have HM:ae (nZ (fc B)=M):=hM;have IM:ae ((prog.info? 191).map (·.size)=some (M.map nv).toArray.size):=lp M vh;have xA:=aL wr r _ _ (M.map nv) hN.out.res (by simp[vh]) (mn M);have bh:=setRow_heap wr r _ (M.map nv).toArray _ _ hN.out.res;have bR:ae (Below w.heap.size w (wr.setRow r (M.map nv).toArray)):=below_setRow hN.out.aY hN.out.br _;obtain⟨W4,fj⟩:=aW (wr.setRow r (M.map nv).toArray);rw[fj] at xA bh bR;have cY:ae (W4.heap[r]?=some (.cells (M.map nv).toArray 191 (0,0))):=bh;clear bh fj hM
   go_wp2_with (first|(refine wpList_load_row rfl 191 _ rfl g rfl 191 _ (0,0) _ hN.out.now underlying191 rfl IM.out ?_))
   (try simp only[nu,Exit.then])
   refine bodyPost_ret (results_cell_row rfl _ _ r 191 _ (0,0) _ rfl cY.o underlying191 rfl IM.out) rfl ?_;exact⟨by rw[HM.o],by rw[←ik];exact bR.o⟩
def xR:aO:=cz 17 0
theorem Dq (l:aO)(hl:l.length=17):(prog.info? 193).map (·.size)=some (l.map bv).toArray.size:=by
 have e1:(prog.info? 193).map (·.size)=some 17:=by kernel_rfl
 rw[e1];simp[hl]
theorem dz.put {w:aw}{g:Nat}{t:TypeId}{l:aO}(h:dz w g t l)(l':aO):dz (w.setRow g (l'.map bv).toArray) g t l':=setRow_heap w g _ _ _ _ h
theorem dz.keep {w:aw}{g g':Nat}{t:TypeId}{l:aO}(h:dz w g t l)(eL:g≠g')(cs:Array Value):dz (w.setRow g' cs) g t l:=by unfold dz;rw[setRow_other _ _ _ _ eL];exact h
theorem qt (w:aw)(t:TypeId)(l m:aO)(s:TypeId):dz ((w.alloc (.cells (l.map bv).toArray t)).alloc (.cells (m.map bv).toArray s)) (w.heap.size+1) s m∧dz ((w.alloc (.cells (l.map bv).toArray t)).alloc (.cells (m.map bv).toArray s)) w.heap.size t l:=by
 constructor
 ·have:=eC (w.alloc (.cells (l.map bv).toArray t)) (.cells (m.map bv).toArray s);rw[fx] at this;exact this
 ·exact(dz.new w t l).alloc _
theorem M6 (part:aO)(n:Nat)(h:part.length=n)(hn:n≤16):(xR.map bv).take 0++part.map bv++(xR.map bv).drop (0+n)=(part++cz (17-n) 0).map bv:=by rw[List.take_zero,List.nil_append,List.map_append,xR,List.map_replicate,List.map_replicate,List.drop_replicate,Nat.zero_add]
theorem M7 (part:aO)(n:Nat)(h:part.length=n)(hn:n≤16):(part++cz (17-n) 0).set n 1=part++1::cz (16-n) 0:=by rw[show 17-n=(16-n)+1 by omega,List.replicate_succ,List.set_append_right _ _ (by omega)];simp[h]
theorem M8 (b off len cap:Nat)(part:aO)(w:aw)(hB:bj w (some ⟨b,off,none⟩) len part)(hl:len≤16):
  Calls prog 159 #[.slice (some ⟨b,off,none⟩) len cap] w λe w'=>e= .returned (.agg ((part++1::cz (16-len) 0).map bv).toArray)∧Below w.heap.size w w':=by
 have tN:=hB.1;obtain⟨a1,a0⟩:=qt w 193 xR xR 193;have b1:Below w.heap.size w ((w.alloc (.cells (xR.map bv).toArray 193)).alloc (.cells (xR.map bv).toArray 193)):=eF.alloc (by simp) _;obtain⟨W1,fg⟩:=aW ((w.alloc (.cells (xR.map bv).toArray 193)).alloc (.cells (xR.map bv).toArray 193));rw[fg] at a1 a0 b1;have lY:=run_copy_row prog W1 22 22 3 5 (w.heap.size+1) 0 17 17 ⟨b,off,none⟩ len cap _ _ (part.map bv) underlying22 Tryz.info1U8 a1
  (by rw[List.length_map,tN];show len=min len 17;omega) (λj v hj=>(hB.later b1).cells _ rfl j v (by simpa using hj)) (by simp[xR];omega) (bd _)
 rw[List.length_map,tN] at lY;simp only[] at lY;rw[M6 part len tN hl] at lY;have a2:=a1.put (part++cz (17-len) 0);have a02:=a0.keep (g':=w.heap.size+1) (by omega) ((part++cz (17-len) 0).map bv).toArray;have b2:Below w.heap.size w (W1.setRow (w.heap.size+1) ((part++cz (17-len) 0).map bv).toArray):=below_setRow b1 (by omega) _;obtain⟨W2,fV⟩:=aW (W1.setRow (w.heap.size+1) ((part++cz (17-len) 0).map bv).toArray);rw[fV] at a2 a02 b2 lY;obtain⟨cc,fr⟩:=a2.at_ len (by simp;omega);have a3:=a2.set len 1;rw[M7 part len tN hl] at a3;have a03:=a02.other (g':=w.heap.size+1) (by omega) len (.int .u8 (((1:UInt8)).toNat:Int));have b3:Below w.heap.size w (W2.setCell ⟨w.heap.size+1,len,none⟩ (.int .u8 (((1:UInt8)).toNat:Int))):=b2.setCell (p:=⟨w.heap.size+1,len,none⟩) (by show _≤_+1;omega) _;obtain⟨W3,nV⟩:=aW (W2.setCell ⟨w.heap.size+1,len,none⟩ (.int .u8 1));obtain⟨C,hC⟩:=aW (part++1::cz (16-len) 0);have QI:C.length=17:=by rw[←hC];simp;omega
 have e3:W2.setCell ⟨w.heap.size+1,len,none⟩ (.int .u8 (((1:UInt8)).toNat:Int))=W3:=nV;rw[e3] at a3 a03 b3;rw[hC] at a3;have py:ae (dz W3 (w.heap.size+1) 193 C):=a3;have IC:ae ((prog.info? 193).map (·.size)=some (C.map bv).toArray.size):=Dq C QI;have xA:=aL W3 w.heap.size _ _ (C.map bv) a03 (by simp[QI,xR]) (bd C);have bh:=setRow_heap W3 w.heap.size _ (C.map bv).toArray _ _ a03;have bR:ae (Below w.heap.size w (W3.setRow w.heap.size (C.map bv).toArray)):=below_setRow b3 (di _) _;obtain⟨W4,fj⟩:=aW (W3.setRow w.heap.size (C.map bv).toArray);rw[fj] at xA bh bR;have cY:ae (W4.heap[w.heap.size]?=some (.cells (C.map bv).toArray 193 (0,0))):=bh;have HCP:ae ((Builtin.copy_ #[22,22] 3 #[.slice (some ⟨w.heap.size+1,0,none⟩) 17 17,.slice (some ⟨b,off,none⟩) len cap]).run prog ((w.alloc (.cells (xR.map bv).toArray 193)).alloc (.cells (xR.map bv).toArray 193))= .ok (goInt len) W2):=by rw[fg];exact lY
 have HC:ae (part++1::cz (16-len) 0=C):=hC;have pI:ae (W2.setCell ⟨w.heap.size+1,len,none⟩ (.int .u8 1)=W3):=nV;have asn:(len:Int)<17:=by omega
 clear lY a0 a1 b1 fg a2 a02 b2 fV a3 a03 b3 e3 nV hC bh fj hB;have lY:(Builtin.copy_ #[22,22] 3 #[.slice (some ⟨w.heap.size+1,0,none⟩) 17 17,.slice (some ⟨b,off,none⟩) len cap]).run prog ((w.alloc (.cells #[.int .u8 0,.int .u8 0,.int .u8 0,.int .u8 0,.int .u8 0,.int .u8 0,.int .u8 0,.int .u8 0,.int .u8 0,.int .u8 0,.int .u8 0,.int .u8 0,.int .u8 0,.int .u8 0,.int .u8 0,.int .u8 0,.int .u8 0] 193)).alloc (.cells #[.int .u8 0,.int .u8 0,.int .u8 0,.int .u8 0,.int .u8 0,.int .u8 0,.int .u8 0,.int .u8 0,.int .u8 0,.int .u8 0,.int .u8 0,.int .u8 0,.int .u8 0,.int .u8 0,.int .u8 0,.int .u8 0,.int .u8 0] 193))= .ok (.int .i64 (len:Int)) W2:=HCP.o;clear HCP
 go_enter func159,ntmps159
 go_wp2_with (first|(rw[pI.o];refine wpList_load_row rfl 193 _ rfl (w.heap.size+1) rfl 193 _ (0,0) _ py.o underlying193 rfl IC.out ?_))
 (try simp only[nu,Exit.then])
 refine bodyPost_ret (results_cell_row rfl _ _ w.heap.size 193 _ (0,0) _ rfl cY.o underlying193 rfl IC.out) rfl ?_;exact⟨by rw[HC.o],bR.o⟩
theorem TY (c m:Nat)(hc:c<256)(hm:m<256):bits .and .u8 (c:Int) (m:Int)=((c&&&m:Nat):Int):=by
 have e:(BitVec.ofInt 8 (c:Int)&&&BitVec.ofInt 8 (m:Int)).toNat=c&&&m:=by
  rw[BitVec.toNat_and,BitVec.toNat_ofInt,BitVec.toNat_ofInt];have h1:((c:Int) % ((2^8:Nat):Int)).toNat=c:=by omega
  have h2:((m:Int) % ((2^8:Nat):Int)).toNat=m:=by omega
  rw[h1,h2]
 show IntKind.u8.wrap ((BitVec.ofInt 8 (c:Int)&&&BitVec.ofInt 8 (m:Int)).toNat:Int)=_;rw[e,IntKind.wrap_u8];have:c&&&m≤c:=Nat.and_le_left;omega
theorem aca:∀c:Fin 256,c.val&&&252=c.val/4*4:=by decide
theorem TZ (c:Nat)(hc:c<256):bits .and .u8 (c:Int) 252=((c/4*4:Nat):Int):=by have h:=TY c 252 hc (by omega);have e:=aca ⟨c,hc⟩;simp only at e;rw[e] at h;exact h
structure MK (w:aw)(g r:Nat)(B:aO)(W:aw):Prop where
 now:dz W g 193 B
 res:dz W r 193 xR
 nr:r≠g
 bg:w.heap.size≤g
 br:w.heap.size≤r
 aY:Below w.heap.size w W
theorem MK.set {w W:aw}{g r:Nat}{B:aO}(t:MK w g r B W)(i:Nat)(x:UInt8):MK w g r (B.set i x) (W.setCell ⟨g,i,none⟩ (.int .u8 (x.toNat:Int))):=by have hg:=t.bg;exact⟨t.now.set i x,t.res.other t.nr i _,t.nr,t.bg,t.br,t.aY.setCell (p:=⟨g,i,none⟩) (by show _≤g;omega) _⟩
theorem T2 (key:aO):XA 19 0 key=XA 19 4 key:=by
 apply List.ext_getElem
 ·simp[XA]
 ·intro i h1 h2;simp only[XA,List.getElem_map,List.getElem_range]
  by_cases h3:i % 4=3∧i<19
  ·rw[if_pos h3,if_pos h3]
  ·rw[if_neg h3,if_neg h3,if_neg (by omega),if_neg (by omega)]
theorem Ga (l:aO)(i:Nat)(x:UInt8)(h:i<l.length):(l++[0]).set i x=l.set i x++[0]:=List.set_append_left _ _ h
theorem Gb (l:aO)(i:Nat)(h:i<l.length):at8 (l++[0]) i=at8 l i:=by simp[at8,List.getElem?_append_left h]
theorem Ds (key:aO)(w:aw)(hk:key.length=32):
  Calls prog 157 #[.agg (key.map bv).toArray] w λe w'=>e= .returned (.agg ((iO key++[0]).map bv).toArray)∧Below w.heap.size w w':=by
 obtain⟨a1,a0⟩:=qt w 24 key xR 193;have b1:Below w.heap.size w ((w.alloc (.cells (key.map bv).toArray 24)).alloc (.cells (xR.map bv).toArray 193)):=eF.alloc (by simp) _;have a2:=eC ((w.alloc (.cells (key.map bv).toArray 24)).alloc (.cells (xR.map bv).toArray 193)) (.cells (xR.map bv).toArray 193);rw[fx,fx] at a2;have WG:=a1.alloc (.cells (xR.map bv).toArray 193);have a01:=a0.alloc (.cells (xR.map bv).toArray 193);have b2:=b1.alloc (by simp<;>omega) (.cells (xR.map bv).toArray 193);have hR:dz (((w.alloc (.cells (key.map bv).toArray 24)).alloc (.cells (xR.map bv).toArray 193)).alloc (.cells (xR.map bv).toArray 193)) w.heap.size 24 key∧MK w (w.heap.size+1+1) (w.heap.size+1) xR (((w.alloc (.cells (key.map bv).toArray 24)).alloc (.cells (xR.map bv).toArray 193)).alloc (.cells (xR.map bv).toArray 193)):=
  ⟨a01,a2,WG,by omega,by omega,by omega,b2⟩
 have HR:ae _:=hR;clear a0 a1 a2 WG a01 b1 b2 hR
 go_enter func157,ntmps157
 go_wp2
 refine bY (P:=Code.wp prog _ _ _) (R:=λW=>ae (dz W w.heap.size 24 key∧MK w (w.heap.size+1+1) (w.heap.size+1) xR W)) _ HR ?_;intro W0 ny;clear HR;generalize w.heap.size+1+1=g at ny⊢
 generalize w.heap.size+1=r at ny⊢
 generalize ik:w.heap.size=b0 at ny⊢
 obtain⟨hK,hM⟩:=ny.out;obtain⟨W1,fg⟩:=aW (W0.drew);have hK1:dz W1 b0 24 key:=by rw[←fg];exact hK
 have xu:MK w g r xR W1:=by rw[←fg];exact⟨hM.now,hM.res,hM.nr,hM.bg,hM.br,hM.aY.drew⟩
 have lY:=run_copy_row prog W1 22 22 3 5 g 0 17 17 ⟨b0,0,none⟩ 16 32 _ _ ((key.take 16).map bv) underlying22 Tryz.info1U8 xu.now
  (by rw[List.length_map,List.length_take,hk];rfl) (λj v hj=>((hK1.nw 32 hk).cut (by omega)).cells _ rfl j v hj) (by simp[xR];omega) (bd _)
 have h16:((key.take 16).map bv).length=16:=by simp[hk]
 rw[h16] at lY;have agO:(xR.map bv).take 0++(key.take 16).map bv++(xR.map bv).drop (0+16)=(XA 3 0 key++[0]).map bv:=by rw[Ki key hk,List.map_append];rfl
 simp only[] at lY;rw[agO] at lY;have wz:MK w g r (XA 3 0 key++[0]) (W1.setRow g ((XA 3 0 key++[0]).map bv).toArray):=
  ⟨xu.now.put _,xu.res.keep xu.nr _,xu.nr,xu.bg,xu.br,below_setRow xu.aY xu.bg _⟩
 obtain⟨W2,fV⟩:=aW (W1.setRow g ((XA 3 0 key++[0]).map bv).toArray);rw[fV] at lY wz;have LY:ae (MK w g r (XA 3 0 key++[0]) W2):=wz;have fU:ae (W0.drew=W1):=fg;clear wz fg fV agO h16 xu hK1 hM hK ny;refine ah (G:=λ_ _=>True) (by kernel_rfl) (λ_=>trivial) (λ_ _ _ _ _=>trivial) (by kernel_rfl) [(0,true),(1,true),(2,false)] rfl (by kernel_rfl) ?_;intro KK cA;rw[fU.o]
 iterate 2 (refine aa rfl (by rfl) (v:=?_) ?_ ?_;rotate_left;(intro w' hw';clear hw';go_simp;with_reducible rfl);go_simp)
 refine fZ (w':=W2) (v:=goInt 16) rfl (by rfl) (by go_simp) trivial ?_;clear lY;go_simp
 refine az cA ?_
 go_wp2
 go_loopw [4] (λi wr=>∃j:Nat,j≤4∧i= .int .i64 ((3+4*j:Nat):Int)∧ae (MK w g r (XA (3+4*j) 0 key++[0]) wr)) (λi _=>20-(intOf i).toNat)
 case atStart=>exact⟨0,by omega,rfl,LY⟩
 case round=>
  clear LY;obtain⟨j,hj,rfl,hN⟩:=hrel;obtain⟨p,hp⟩:=aW (3+4*j);rw[hp] at hN⊢
  by_cases dN:j<4
  ·have xr:(p:Int)<16:=by omega
   have alF:(p:Int)<17:=by omega
   obtain⟨cc,fr⟩:=hN.out.now.at_ p (by simp[gz];omega);rw[Gb _ _ (by rw[gz];omega),Hi p 0 key p (by omega),if_neg (by omega),if_neg (by omega)] at cc;obtain⟨x,hx⟩:=aW ((at8 key p).toNat);have Dp:x<256:=by rw[←hx];exact(at8 key p).toNat_lt
   rw[hx] at cc;have e16:((x % 16:Nat):Int)=(x:Int) % 16:=by omega
   have jb:=hN.out.set p (UInt8.ofNat (x % 16));rw[Ga _ _ _ (by rw[gz];omega)] at jb;have hs:=Kj key j dN;rw[hp,hx] at hs;rw[hs] at jb;have ev:(UInt8.ofNat (x % 16)).toNat=x % 16:=by simp;omega
   rw[ev] at jb;rw[e16] at jb;have yR:ae (MK w g r (XA (3+4*(j+1)) 0 key++[0]) (wr.setCell ⟨g,p,none⟩ (.int .u8 ((x:Int) % 16)))):=jb;clear hN jb hs ev hx e16
   go_wp2
   exact⟨⟨j+1,by omega,by go_num,yR⟩,by simp[intOf];omega⟩
  ·have xr:¬(p:Int)<16:=by omega
   have Cr:ae (MK w g r (XA 19 4 key++[0]) wr):=by rw[←T2,←show p=19 by omega];exact hN
   clear hN
   go_wp2
   go_loopw [5] (λi wr=>∃j:Nat,j≤3∧i= .int .i64 ((4+4*j:Nat):Int)∧ae (MK w g r (XA 19 (4+4*j) key++[0]) wr)) (λi _=>20-(intOf i).toNat)
   case atStart=>exact⟨0,by omega,rfl,Cr⟩
   case round=>
    clear Cr hp xr dN hj;obtain⟨j,hj,rfl,hN⟩:=hrel;obtain⟨p,hp⟩:=aW (4+4*j);rw[hp] at hN⊢
    by_cases dN:j<3
    ·have xr:(p:Int)<16:=by omega
     have alF:(p:Int)<17:=by omega
     obtain⟨cc,fr⟩:=hN.out.now.at_ p (by simp[gz];omega);rw[Gb _ _ (by rw[gz];omega),Hi 19 p key p (by omega),if_neg (by omega),if_neg (by omega)] at cc;obtain⟨x,hx⟩:=aW ((at8 key p).toNat);have Dp:x<256:=by rw[←hx];exact(at8 key p).toNat_lt
     rw[hx] at cc;have E1:ae (bits .and .u8 (x:Int) 252=((x/4*4:Nat):Int)):=TZ x Dp;have jb:=hN.out.set p (UInt8.ofNat (x/4*4));rw[Ga _ _ _ (by rw[gz];omega)] at jb;have hs:=Kk key j dN;rw[hp,hx] at hs;rw[hs] at jb;have ev:(UInt8.ofNat (x/4*4)).toNat=x/4*4:=by simp;omega
     rw[ev] at jb;have yR:ae (MK w g r (XA 19 (4+4*(j+1)) key++[0]) (wr.setCell ⟨g,p,none⟩ (.int .u8 ((x/4*4:Nat):Int)))):=jb;clear hN jb hs ev hx
     go_wp2
     rw[E1.out];exact⟨⟨j+1,by omega,by go_num,yR⟩,by simp[intOf];omega⟩
    ·have xr:¬(p:Int)<16:=by omega
     obtain⟨C,hC⟩:=aW (iO key++[0]);have QI:C.length=17:=by rw[←hC];simp[sm]
     have Cr:ae (MK w g r C wr):=by rw[←hC,←O5,←show p=16 by omega];exact hN
     have HC:ae (iO key++[0]=C):=hC;have IC:ae ((prog.info? 193).map (·.size)=some (C.map bv).toArray.size):=Dq C QI;have xA:=aL wr r _ _ (C.map bv) Cr.o.res (by simp[QI,xR]) (bd C);have bh:=setRow_heap wr r _ (C.map bv).toArray _ _ Cr.o.res;have bR:ae (Below w.heap.size w (wr.setRow r (C.map bv).toArray)):=below_setRow Cr.o.aY Cr.o.br _;obtain⟨W4,fj⟩:=aW (wr.setRow r (C.map bv).toArray);rw[fj] at xA bh bR;have cY:ae (W4.heap[r]?=some (.cells (C.map bv).toArray 193 (0,0))):=bh;clear bh fj hC hN
     go_wp2_with (first|(refine wpList_load_row rfl 193 _ rfl g rfl 193 _ (0,0) _ Cr.o.now underlying193 rfl IC.out ?_))
     (try simp only[nu,Exit.then])
     refine bodyPost_ret (results_cell_row rfl _ _ r 193 _ (0,0) _ rfl cY.o underlying193 rfl IC.out) rfl ?_;exact⟨by rw[←HC.o,List.map_append];rfl,by rw[←ik];exact bR.o⟩
theorem agP (x y c:Int)(hx:0≤x)(hy:0≤y)(kt:0≤c)(hc:c≤1)(w:aw):(callFunc 99 #[.int .u64 x,.int .u64 y,.int .u64 c]).run prog w=
  .ok (.value (.tuple #[.int .u64 ((x+y+c) % 18446744073709551616),.int .u64 ((x+y+c)/18446744073709551616)])) w:=by
 rw[run_callFunc_extern func99 (by kernel_rfl) (by kernel_rfl) (by kernel_rfl) (e:=add64Entry) (by kernel_rfl),run_add64 x y c hx hy kt hc];rfl
theorem xg (x y c s o:Nat)(hc:c≤1)(hs:(x+y+c) % 18446744073709551616=s)(ho:(x+y+c)/18446744073709551616=o)(w:aw):(callFunc 99 #[.int .u64 (x:Int),.int .u64 (y:Int),.int .u64 (c:Int)]).run prog w=
  .ok (.value (.tuple #[.int .u64 (s:Int),.int .u64 (o:Int)])) w:=by
 have e1:((x:Int)+(y:Int)+(c:Int)) % 18446744073709551616=(s:Int):=by omega
 have e2:((x:Int)+(y:Int)+(c:Int))/18446744073709551616=(o:Int):=by omega
 rw[agP _ _ _ (by omega) (by omega) (by omega) (by omega),e1,e2]
theorem agQ:(67108864:Nat)^5=2^130:=by decide
theorem Hq (x y m:Nat)(z:Int)(hz:z=((y*2^m:Nat):Int))(hx:x<2^m)(hy:x+y*2^m<18446744073709551616):bits .or .u64 (x:Int) z=((x+y*2^m:Nat):Int):=by rw[hz,CC x (y*2^m) (by omega) (by omega),Nat.or_comm,CB y x m hx,Nat.add_comm]
theorem T3 (a b c:Nat)(ha:a<67108864)(hb:b<67108864)(hc:c<67108864):
  bits .or .u64 (bits .or .u64 (a:Int) ((b:Int)*67108864)) (IntKind.u64.wrap ((c:Int)*4503599627370496))=((a+b*67108864+c % 4096*4503599627370496:Nat):Int):=by
 rw[Hq a b 26 ((b:Int)*67108864) (by simp) (by omega) (by omega)];exact Hq (a+b*67108864) (c % 4096) 52 _ (by rw[IntKind.wrap_u64];omega) (by omega) (by omega)
theorem QJ (c d e:Nat)(hc:c<67108864)(hd:d<67108864)(he:e<67108864):
  bits .or .u64 (bits .or .u64 ((c:Int)/4096) ((d:Int)*16384)) (IntKind.u64.wrap ((e:Int)*1099511627776))=((c/4096+d*16384+e % 16777216*1099511627776:Nat):Int):=by
 rw[show(c:Int)/4096=((c/4096:Nat):Int) by omega,Hq (c/4096) d 14 ((d:Int)*16384) (by simp) (by omega) (by omega)];exact Hq (c/4096+d*16384) (e % 16777216) 40 _ (by rw[IntKind.wrap_u64];omega) (by omega) (by omega)
theorem QK (a b c d e:Nat)(w:aw)(ha:a<67108864)(hb:b<67108864)(hc:c<67108864)(hd:d<67108864)(he:e<67108864)(W:Nat)(hW:fD [a,b,c,d,e] % gP=W):
  Calls prog 167 #[.agg ([a,b,c,d,e].map nv).toArray] w λx w'=>x= .returned (.tuple #[.int .u64 ((W % 18446744073709551616:Nat):Int),.int .u64 ((W/18446744073709551616 % 18446744073709551616:Nat):Int)])∧Below w.heap.size w w':=by
 show Calls prog 167 #[.agg #[.int .u64 (a:Int),.int .u64 (b:Int),.int .u64 (c:Int),.int .u64 (d:Int),.int .u64 (e:Int)]] w _;obtain⟨e1,e2,e3⟩:=M4 a b c d e ha hb hc hd he;have zx:=T3 a b c ha hb hc;have Yh:=QJ c d e hc hd he;rw[e1] at zx;rw[e2] at Yh;have hVb:=O9 [a,b,c,d,e] (by simp;omega);rw[show[a,b,c,d,e].length=5 from rfl,agQ] at hVb;have Hr:(e:Int)/16777216=((e/16777216:Nat):Int):=by omega
 rw[e3] at Hr;obtain⟨V,hV⟩:=aW (fD [a,b,c,d,e]);rw[hV] at zx Yh hVb hW Hr;obtain⟨W',hW',QL,hhi⟩:=QH V 0 hVb;rw[hW] at hW';subst hW';obtain⟨L,hL⟩:=aW (V % 18446744073709551616);obtain⟨H,hH⟩:=aW (V/18446744073709551616 % 18446744073709551616);obtain⟨T,hT⟩:=aW (V/340282366920938463463374607431768211456);rw[hL] at zx;rw[hH] at Yh;rw[hT] at Hr;obtain⟨ML,EY⟩:=aW ((L+5) % 18446744073709551616);obtain⟨C1,hC1⟩:=aW ((L+5)/18446744073709551616);obtain⟨MH,hMH⟩:=aW ((H+C1) % 18446744073709551616);obtain⟨C2,XT⟩:=aW ((H+C1)/18446744073709551616);have hLb:L<18446744073709551616:=by omega
 have hHb:H<18446744073709551616:=by omega
 have aso:C1≤1:=by omega
 have asp:C2≤1:=by omega
 have hTb:T<4:=by omega
 have A1:∀w',(callFunc 99 #[.int .u64 (L:Int),.int .u64 5,.int .u64 0]).run prog w'= .ok (.value (.tuple #[.int .u64 (ML:Int),.int .u64 (C1:Int)])) w':=xg L 5 0 ML C1 (by omega) (by omega) (by omega);have A2:∀w',(callFunc 99 #[.int .u64 (H:Int),.int .u64 0,.int .u64 (C1:Int)]).run prog w'= .ok (.value (.tuple #[.int .u64 (MH:Int),.int .u64 (C2:Int)])) w':=xg H 0 C1 MH C2 (by omega) (by omega) (by omega);have HL:ae _:=zx;have HH:ae _:=Yh;have HT:ae _:=Hr;have bR:ae (Below w.heap.size w (w.alloc (.cells #[.int .u64 (a:Int),.int .u64 (b:Int),.int .u64 (c:Int),.int .u64 (d:Int),.int .u64 (e:Int)] 191))):=eF
 by_cases LV:2^130≤V+5
 ·obtain⟨r1,r2⟩:=hhi LV;have htc:3<(T:Int)+(C2:Int):=by omega
  have R1:ae (W' % 18446744073709551616=ML):=by show _=_;rw[r1];omega
  have R2:ae (W'/18446744073709551616 % 18446744073709551616=MH):=by show _=_;rw[r2];omega
  clear zx Yh Hr e1 e2 e3 hVb hV hW QL hhi hL hH hT EY hC1 hMH XT r1 r2 LV
  go_enter func167,ntmps167
  go_wp2_with fail
  rw[HL.o,HH.o,HT.o];simp only[A1]
  go_wp2_with (first|simp only[A2])
  go_ret2
  exact⟨by rw[R1.out,R2.out];rfl,bR.o⟩
 ·obtain⟨r1,r2⟩:=QL (by omega);have htc:¬3<(T:Int)+(C2:Int):=by omega
  have R1:ae (W' % 18446744073709551616=L):=by show _=_;rw[r1];omega
  have R2:ae (W'/18446744073709551616 % 18446744073709551616=H):=by show _=_;rw[r2];omega
  clear zx Yh Hr e1 e2 e3 hVb hV hW QL hhi hL hH hT EY hC1 hMH XT r1 r2 LV
  go_enter func167,ntmps167
  go_wp2_with fail
  rw[HL.o,HH.o,HT.o];simp only[A1]
  go_wp2_with (first|simp only[A2])
  go_ret2
  exact⟨by rw[R1.out,R2.out];rfl,bR.o⟩
structure TG (w:aw)(l:List Nat)(key:aO)(W:aw):Prop where
 num:sR W w.heap.size l
 key:dz W (w.heap.size+1) 24 key
 res:dz W (w.heap.size+1+1) 171 (cz 16 0)
 aY:Below w.heap.size w W
theorem TG.new (w:aw)(l:List Nat)(key:aO):TG w l key (((w.alloc (.cells (l.map nv).toArray 191)).alloc (.cells (key.map bv).toArray 24)).alloc (.cells ((cz 16 0).map bv).toArray 171)):=by have h0:sR (w.alloc (.cells (l.map nv).toArray 191)) w.heap.size l:=eC w _;have h1:=dz.new (w.alloc (.cells (l.map nv).toArray 191)) 24 key;have h2:=dz.new ((w.alloc (.cells (l.map nv).toArray 191)).alloc (.cells (key.map bv).toArray 24)) 171 (cz 16 0);rw[fx] at h1;rw[fx,fx] at h2;exact⟨(h0.alloc _).alloc _,h1.alloc _,h2,(eF.alloc (by simp) _).alloc (by simp<;>omega) _⟩
theorem TG.later {w W W':aw}{l:List Nat}{key:aO}(t:TG w l key W)(hb:Below W.heap.size W W'):TG w l key W':=
 ⟨t.num.later hb,t.key.later hb,t.res.later hb,t.aY.trans (hb.mono t.aY.size)⟩
theorem BX (W:aw)(ty:TypeId)(b off n m:Nat)(e:TypeId)(l:aO)(hB:bj W (some ⟨b,off,none⟩) n l)(hu:prog.underlying ty=some (.array m e))(hi:(prog.info? ty).map (·.size)=some n):
  (loadVar ty ⟨b,off,none⟩).run prog W= .ok (.agg (l.map bv).toArray) W:=by
 have hl:=hB.1;have hld:(loadCells ⟨b,off,none⟩ n).run prog W= .ok (l.map bv).toArray W:=by have:=run_loadCells_list (P:=prog) W ⟨b,off,none⟩ (l.map bv) (λj v hv=>hB.cells _ rfl j v hv);rw[List.length_map,hl] at this;exact this
 cases hq:prog.info? ty with
 |none=>simp[hq] at hi
 |some i=>
  have hs:i.size=n:=by simpa[hq] using hi
  have Tb:(isAgg ty).run prog W= .ok true W:=by unfold isAgg;rw[Sem.run_bind,run_underlying hu W];simp
  simp[loadVar,Sem.run_bind,Tb,sizeOf,typeInfo,hq,hs,hld]
theorem eQ {ops:Array Oper}{rest:List Oper}{o:Oper}{a:Act}{W:aw}{Q:Exit→Act→aw→Prop}(hgd:o.guard=none)(ty:TypeId)(x:Operand)(ho:o.op= .load ty x)
  (b off n m:Nat) (e:TypeId) (l:aO) (hx:a.eval x= .pointer (some ⟨b,off,none⟩)) (hB:bj W (some ⟨b,off,none⟩) n l) (hu:prog.underlying ty=some (.array m e)) (hi:(prog.info? ty).map (·.size)=some n)
  (h:wpList prog ops Q rest (a.put o.dst (.agg (l.map bv).toArray)) W):wpList prog ops Q (o::rest) a W:=by
 refine wpList_plain hgd λK hK=>?_;unfold Oper.wp execOp;simp only[ho,hx,Instr.loadAt,Instr.sureAddr,Sem.run_bind,Sem.run_pure,Result.andThen_ok,BX W ty b off n m e l hB hu hi];exact hK _ _ h
theorem Dt (l:aO)(hl:l.length=16):(prog.info? 171).map (·.size)=some (l.map bv).toArray.size:=by
 have e1:(prog.info? 171).map (·.size)=some 16:=by kernel_rfl
 rw[e1];simp[hl]
theorem Pc:∀a b n,zA (a+b) n=zA a n++zA b (n/256^a)
 |0,b,n=>by simp[zA]
 |a+1,b,n=>by rw[show a+1+b=(a+b)+1 by omega,zA,zA,Pc a b (n/256),Nat.div_div_eq_div_mul,Nat.pow_succ,Nat.mul_comm 256];rfl
theorem Ht:∀a n,zA a (n % 256^a)=zA a n
 |0,n=>rfl
 |a+1,n=>by
  have e1:n % 256^(a+1) % 256=n % 256:=by rw[Nat.pow_succ,Nat.mul_comm];exact Nat.mod_mul_right_mod n 256 _
  have e2:n % 256^(a+1)/256=n/256 % 256^a:=by rw[Nat.pow_succ,Nat.mul_comm];exact Nat.mod_mul_right_div_self n 256 _
  rw[zA,zA,e1,e2,Ht a]
theorem QM (A S LW C HW:Nat)(hS:S<340282366920938463463374607431768211456)(h1:(A % 18446744073709551616+S % 18446744073709551616) % 18446744073709551616=LW)(h2:(A % 18446744073709551616+S % 18446744073709551616)/18446744073709551616=C)
  (h3:(A/18446744073709551616 % 18446744073709551616+S/18446744073709551616+C) % 18446744073709551616=HW):im 8 LW false++im 8 HW false=zA 16 (A+S):=by
 have e:=Pc 8 8 (A+S);have m1:=Ht 8 (A+S);have m2:=Ht 8 ((A+S)/256^8);have hp:(256:Nat)^8=18446744073709551616:=by decide
 rw[hp] at e m1 m2;have k1:(A+S) % 18446744073709551616=LW:=by omega
 have k2:(A+S)/18446744073709551616 % 18446744073709551616=HW:=by omega
 rw[k1] at m1;rw[k2] at m2;show zA 8 LW++zA 8 HW=_;rw[e,m1,m2]
theorem M9 (l:List Nat)(w:aw)(hl:l.length=5)(hb:∀x∈l,x<67108864)(A LO HI:Nat)(hA:fD l % gP=A)(h1:A % 18446744073709551616=LO)(h2:A/18446744073709551616 % 18446744073709551616=HI):
  Calls prog 167 #[.agg (l.map nv).toArray] w λx w'=>x= .returned (.tuple #[.int .u64 (LO:Int),.int .u64 (HI:Int)])∧Below w.heap.size w w':=by
 obtain⟨a,b,c,d,e,rfl⟩:=wu l hl;simp only[mg,nj,or_false,forall_eq_or_imp,forall_eq] at hb;obtain⟨ha,hb,hc,hd,he⟩:=hb;have:=QK a b c d e w ha hb hc hd he A hA;rw[h1,h2] at this;exact this
theorem Ku (key:aO):sW key false 16 8=sY key % 18446744073709551616∧sW key false 24 8=sY key/18446744073709551616:=by
 have h0:sY key=fc key/256^16 % 256^16:=Pb key 16 16;rw[qs,qs,h0];generalize fc key=N
 have p1:(256:Nat)^16=340282366920938463463374607431768211456:=by decide
 have p2:(256:Nat)^8=18446744073709551616:=by decide
 have p3:(256:Nat)^24=6277101735386680763835789423207666416102355444464034512896:=by decide
 rw[p1,p2,p3];omega
theorem Yi (l:List Nat)(key:aO)(w:aw)(hl:l.length=5)(hb:∀x∈l,x<67108864)(hk:key.length=32):
  Calls prog 161 #[.agg (l.map nv).toArray,.agg (key.map bv).toArray] w λe w'=>e= .returned (.agg ((zA 16 (fD l % gP+sY key)).map bv).toArray)∧Below w.heap.size w w':=by
 have IN:ae ((prog.info? 191).map (·.size)=some (l.map nv).toArray.size):=lp l hl
 go_enter func161,ntmps161
 go_wp2_with (first|(refine wpList_load_row rfl 191 _ rfl w.heap.size rfl 191 _ (0,0) _ (TG.new w l key).num underlying191 rfl IN.out ?_))
 obtain⟨A,hA⟩:=aW (fD l % gP);obtain⟨S,hS⟩:=aW (sY key);obtain⟨LO,hLO⟩:=aW (A % 18446744073709551616);obtain⟨HI,hHI⟩:=aW (A/18446744073709551616 % 18446744073709551616);obtain⟨s0,s1⟩:=Ku key;have Yj:=CK key;rw[hS] at s0 s1 Yj;have agS:S<340282366920938463463374607431768211456:=Yj;obtain⟨S0,ja⟩:=aW (S % 18446744073709551616);obtain⟨S1,Fo⟩:=aW (S/18446744073709551616);rw[ja] at s0;rw[Fo] at s1;obtain⟨LW,hLW⟩:=aW ((LO+S0) % 18446744073709551616);obtain⟨C,hC⟩:=aW ((LO+S0)/18446744073709551616);obtain⟨HW,hHW⟩:=aW ((HI+S1+C) % 18446744073709551616);obtain⟨D,hD⟩:=aW ((HI+S1+C)/18446744073709551616);have HE:ae (im 8 LW false++im 8 HW false=zA 16 (A+S)):=QM A S LW C HW agS (by rw[hLO,ja];exact hLW) (by rw[hLO,ja];exact hC) (by rw[hHI,Fo];exact hHW);have A1:∀w',(callFunc 99 #[.int .u64 (LO:Int),.int .u64 (S0:Int),.int .u64 0]).run prog w'= .ok (.value (.tuple #[.int .u64 (LW:Int),.int .u64 (C:Int)])) w':=xg LO S0 0 LW C (by omega) (by omega) (by omega);have A2:∀w',(callFunc 99 #[.int .u64 (HI:Int),.int .u64 (S1:Int),.int .u64 (C:Int)]).run prog w'= .ok (.value (.tuple #[.int .u64 (HW:Int),.int .u64 (D:Int)])) w':=xg HI S1 C HW D (by omega) (by omega) (by omega);have HAS:ae (zA 16 (fD l % gP+sY key)=zA 16 (A+S)):=by show _=_;rw[hA,hS]
 refine(M9 l _ hl hb A LO HI hA hLO hHI).mono ?_;rintro e w1 ⟨rfl,ck⟩;have pY:ae (TG w l key w1):=(TG.new w l key).later ck;have T4:ae (bj w1 (some ⟨w.heap.size+1,0,none⟩) 32 key):=pY.o.key.nw 32 hk;clear ck hA hS hLO hHI Yj agS ja Fo hLW hC hHW hD
 go_wp2_with fail
 refine(ue (w.heap.size+1) 0 32 32 16 8 false key _ (by unfold maxLen;omega) (by omega) T4.o (by omega) (by omega) (by omega)).mono ?_;rintro e w2 ⟨rfl,rfl⟩;rw[s0]
 go_wp2_with fail
 refine(ue (w.heap.size+1) 0 32 32 24 8 false key _ (by unfold maxLen;omega) (by omega) T4.o (by omega) (by omega) (by omega)).mono ?_;rintro e w3 ⟨rfl,rfl⟩;rw[s1]
 go_wp2_with (first|rw[A1]|rw[A2])
 refine(ug none 0 0 8 LW false [] _ (by omega) ⟨rfl,.inl rfl⟩ 8 (by decide)).mono ?_;rintro e w4 ⟨g4,rfl,Bj,js,TO⟩;have lO:ae (TG w l key w4):=pY.o.later js;have BV:ae (bj w4 (some ⟨g4,0,none⟩) 8 (im 8 LW false)):=TO;clear js TO
 go_wp2_with fail
 refine(ug (some ⟨g4,0,none⟩) 8 8 8 HW false _ _ (by omega) BV.o 8 (by decide)).mono ?_;rintro e w5 ⟨g5,rfl,hg5,iE,sP⟩;have Ck:ae (TG w l key w5):=lO.o.later iE;have ace:bj w5 (some ⟨g5,0,none⟩) 16 (zA 16 (A+S)):=by rw[←HE.o];exact sP
 obtain⟨T,hT⟩:=aW (zA 16 (A+S));have sS:T.length=16:=by rw[←hT,aaa]
 rw[hT] at ace;have HT:ae (zA 16 (fD l % gP+sY key)=T):=HAS.o.trans hT;have hat:(Instr.arrayAt 171 (.slice (some ⟨g5,0,none⟩) 16 16)).run prog w5= .ok (.pointer (some ⟨g5,0,none⟩)) w5:=by simp[Instr.arrayAt,run_underlying underlying171]
 have nY:ae (bj w5 (some ⟨g5,0,none⟩) 16 T):=ace;have IT:ae ((prog.info? 171).map (·.size)=some (T.map bv).toArray.size):=Dt T sS;have xA:=aL w5 (w.heap.size+1+1) _ _ (T.map bv) Ck.o.res (by simp[sS]) (bd T);have bh:=setRow_heap w5 (w.heap.size+1+1) _ (T.map bv).toArray _ _ Ck.o.res;have bR:ae (Below w.heap.size w (w5.setRow (w.heap.size+1+1) (T.map bv).toArray)):=below_setRow Ck.o.aY (by omega) _;obtain⟨W4,fj⟩:=aW (w5.setRow (w.heap.size+1+1) (T.map bv).toArray);rw[fj] at xA bh bR;have cY:ae (W4.heap[w.heap.size+1+1]?=some (.cells (T.map bv).toArray 171 (0,0))):=bh;clear iE sP bh fj hT ace
 go_wp2_with (first|refine eQ rfl 171 _ rfl g5 0 16 16 5 T rfl nY.o underlying171 (by kernel_rfl) ?_)
 (try simp only[nu,Exit.then])
 refine bodyPost_ret (results_cell_row rfl _ _ (w.heap.size+1+1) 171 _ (0,0) _ rfl cY.o underlying171 rfl IT.out) rfl ?_;exact⟨by rw[HT.o],bR.o⟩
structure SM (w:aw)(key:aO)(gr ga:Nat)(R A:List Nat)(W:aw):Prop where
 key:dz W w.heap.size 24 key
 res:dz W (w.heap.size+1) 171 (cz 16 0)
 r:sR W gr R
 a:sR W ga A
 ne:gr≠ga
 ba:w.heap.size+1<ga
 aY:Below w.heap.size w W
theorem SM.later {w W W':aw}{key:aO}{gr ga:Nat}{R A:List Nat}(t:SM w key gr ga R A W)(hb:Below W.heap.size W W'):SM w key gr ga R A W':=
 ⟨t.key.later hb,t.res.later hb,t.r.later hb,t.a.later hb,t.ne,t.ba,t.aY.trans (hb.mono t.aY.size)⟩
theorem SM.put {w W:aw}{key:aO}{gr ga:Nat}{R A:List Nat}(t:SM w key gr ga R A W)(A':List Nat):SM w key gr ga R A' (W.setRow ga (A'.map nv).toArray):=by have h1:=t.ba;refine⟨t.key.keep (by omega) _,t.res.keep (by omega) _,?_,setRow_heap W ga _ _ _ _ t.a,t.ne,t.ba,below_setRow t.aY (by omega) _⟩;unfold sR;rw[setRow_other _ _ _ _ t.ne];exact t.r
structure WH (w:aw)(key:aO)(W:aw):Prop where
 key:dz W w.heap.size 24 key
 res:dz W (w.heap.size+1) 171 (cz 16 0)
 aY:Below w.heap.size w W
theorem WH.new (w:aw)(key:aO):WH w key ((w.alloc (.cells (key.map bv).toArray 24)).alloc (.cells ((cz 16 0).map bv).toArray 171)):=by obtain⟨a1,a0⟩:=qt w 24 key (cz 16 0) 171;exact⟨a0,a1,eF.alloc (by simp) _⟩
theorem WH.later {w W W':aw}{key:aO}(t:WH w key W)(hb:Below W.heap.size W W'):WH w key W':=
 ⟨t.key.later hb,t.res.later hb,t.aY.trans (hb.mono t.aY.size)⟩
theorem SM.new {w W:aw}{key:aO}(t:WH w key W)(R:List Nat):SM w key W.heap.size (W.heap.size+1) R [0,0,0,0,0] ((W.alloc (.cells (R.map nv).toArray 191)).alloc (.cells #[.int .u64 0,.int .u64 0,.int .u64 0,.int .u64 0,.int .u64 0] 191)):=by obtain⟨h1,h2⟩:=Dn W R [0,0,0,0,0];have h3:=t.res.lt;refine⟨(t.key.alloc _).alloc _,(t.res.alloc _).alloc _,h2,h1,by omega,by omega,(t.aY.alloc t.aY.size _).alloc (by have:=t.aY.size;simp;omega) _⟩
theorem Fp (w:aw)(l:List Nat)(hn:l.length=5)(c:Array Value)(hc:c.size=5):
  (storeCells ⟨w.heap.size,0,none⟩ (l.map nv)).run prog (w.alloc (.cells c 191))= .ok () (w.alloc (.cells (l.map nv).toArray 191)):=by
 have e1:(prog.info? 191).map (·.size)=some 5:=by kernel_rfl
 have:=run_storeCells_new (P:=prog) w 191 c (l.map nv).toArray (by rw[e1];simp[hn]) (by simp[hc,hn]) (by rw[Array.all_eq_true_iff_forall_mem];intro u hu;simp only[List.mem_toArray] at hu;exact mn l u hu)
 exact this
theorem T5 (x y r p:Nat):(x+y)*r % p=(x % p+y)*r % p:=by rw[Nat.mul_mod (x+y),Nat.mul_mod (x % p+y),Nat.mod_add_mod]
structure AK (key l:aO)(k:Nat)(A:List Nat):Prop where
 len:A.length=5
 lt:∀x∈A,x<67108864
 val:fD A % gP=jV (iP key) l k
theorem AK.zero (key l:aO):AK key l 0 [0,0,0,0,0]:=⟨rfl,by simp,rfl⟩
theorem AK.next {key l:aO}{k:Nat}{A:List Nat}(h:AK key l k A):AK key l (k+1) (BW (iR A (nZ (rG l k)) 5) (nZ (iP key))):=by have h1:=gW A (nZ (rG l k)) 5;rw[h.len] at h1;refine⟨Bn _ _,Yf _ _ (Kp A _ h.len (kn _) h.lt (zF _)) (zF _),?_⟩;rw[TS _ _ h1 (kn _),QB A _ h.len (kn _),F' _ (Kr l k),F' _ (Ks key),jV,←h.val];exact T5 _ _ _ _
theorem Yk (key:aO)(a:bW)(len cap:Nat)(l:aO)(w:aw)(hk:key.length=32)(hB:bj w a len l)(FW:len≤10000)(ig:len≤cap)(m7:cap≤maxLen):
  Calls prog 148 #[.agg (key.map bv).toArray,.slice a len cap] w λe w'=>e= .returned (.agg ((tag key l).map bv).toArray)∧Below w.heap.size w w':=by
 have hl:=hB.1;have HB:ae (bj w a len l):=hB;have IK:ae ((prog.info? 24).map (·.size)=some (key.map bv).toArray.size):=by
  have e1:(prog.info? 24).map (·.size)=some 32:=by kernel_rfl
  show _=_;rw[e1];simp[hk]
 unfold maxLen at m7;clear hB
 go_enter func148,ntmps148
 go_wp2_with (first|refine wpList_load_row rfl 24 _ rfl w.heap.size rfl 24 _ (0,0) _ (WH.new w key).key underlying24 rfl IK.out ?_)
 refine(Ds key _ hk).mono ?_;rintro e w1 ⟨rfl,ck⟩;have gg:ae (WH w key w1):=(WH.new w key).later ck;obtain⟨C,hC⟩:=aW (iO key++[0]);have QI:C.length=17:=by rw[←hC];simp[sm]
 have eR:fc C=iP key:=by rw[←hC,ji];simp[fc,iP]
 rw[hC];clear ck hC
 go_wp2_with fail
 refine(Kt C w1 QI).mono ?_;rintro e w2 ⟨rfl,cM⟩;have oE:ae (WH w key w2):=gg.o.later cM;rw[eR];obtain⟨R,hR⟩:=aW (nZ (iP key));have wA:R.length=5:=by rw[←hR,kn]
 have hRb:∀x∈R,x<67108864:=by rw[←hR];exact zF _
 rw[hR];have HR:ae (nZ (iP key)=R):=hR;have xA:=Fp w2 R wA #[.int .u64 0,.int .u64 0,.int .u64 0,.int .u64 0,.int .u64 0] rfl;clear cM gg hR eR
 go_wp2
 clear xA;refine bY (P:=Code.wp prog _ _ _) (R:=λW=>ae (SM w key w2.heap.size (w2.heap.size+1) R [0,0,0,0,0] W)) _ (SM.new oE.o R) ?_;intro W0 Kf;clear oE;generalize w2.heap.size+1=ga at Kf⊢
 generalize w2.heap.size=gr at Kf⊢
 go_loopw [7] (λi wr=>∃(k:Nat) (A:List Nat),16*k≤len+15∧i= .int .i64 ((16*k:Nat):Int)∧ae (AK key l k A)∧ae (SM w key gr ga R A wr)) (λi _=>len+16-(intOf i).toNat)
 case atStart=>exact⟨0,[0,0,0,0,0],by omega,rfl,AK.zero key l,Kf⟩
 case round=>
  clear Kf;obtain⟨k,A,hk',rfl,hA,hM⟩:=hrel;obtain⟨p,hp⟩:=aW (16*k);rw[hp] at hk'⊢
  by_cases dN:p<len
  ·have i1:(p:Int)<(len:Int):=by omega
   obtain⟨q,hq⟩:∃q,q=min (p+16) len:=⟨_,rfl⟩;have Af:p<q:=by omega
   have Ag:q≤len:=by omega
   have hq3:q-p≤16:=by omega
   have asu:IntKind.i64.wrap ((p:Int)+16)=(p:Int)+16:=by rw[IntKind.wrap_i64];omega
   have ago:(if(len:Int)<(p:Int)+16 then(len:Int) else(p:Int)+16)=(q:Int):=by split<;>omega
   have TJ:ae ((l.drop p).take (q-p)=fQ l (16*k) 16):=by
    show _=_;unfold fQ;rw[hp];apply List.ext_getElem
    ·simp;omega
    ·intro i h1 h2;simp
   clear hq;obtain⟨ba,fz,rfl⟩:∃ba fz,a=some ⟨ba,fz,none⟩:=by
    rcases HB.o.2 with h0|⟨b',kf,e,_⟩
    ·omega
    ·exact⟨b',kf,e⟩
   have JD:=HB.o.lt (by omega);have hcn:¬cap=p:=by omega
   have TL:(p:Int)≤(cap:Int):=by omega
   have hqc:(q:Int)≤(cap:Int):=by omega
   have Kl:(p:Int)≤(q:Int):=by omega
   obtain⟨W1,fg⟩:=aW (wr.drew);have cL:Below wr.heap.size wr W1:=by rw[←fg];exact gl
   have Cs:ae (SM w key gr ga R A W1):=hM.out.later cL;have Yl:ae (bj W1 (some ⟨ba,fz+p,none⟩) (q-p) (fQ l (16*k) 16)):=by rw[←TJ.o];exact(HB.o.below JD Cs.o.aY).sub (by omega) Ag
   have fU:ae (wr.drew=W1):=fg;have IA:ae ((prog.info? 191).map (·.size)=some (A.map nv).toArray.size):=lp A hA.out.len;have IR:ae ((prog.info? 191).map (·.size)=some (R.map nv).toArray.size):=lp R wA;clear fg cL hM
   go_wp2
   refine ah (G:=bM) (by kernel_rfl) bM.refl bM.trans (by kernel_rfl) [(0,true),(1,true),(2,true),(3,true),(4,true),(5,true),(6,true),(7,true),(8,true),(12,true),(9,false),(10,false),(11,false),(13,false),(14,false)] rfl (by kernel_rfl) ?_;intro KK cA;rw[fU.o];refine aa rfl (by rfl) (v:=.agg (A.map nv).toArray) (λw' hw'=>ar 191 _ rfl ga rfl 191 _ (0,0) _ (Cs.o.a.later hw') underlying191 rfl IA.out) ?_;go_simp
   iterate 8 (refine aa rfl (by rfl) (v:=?_) ?_ ?_;rotate_left;(intro w' hw';clear hw';go_simp;with_reducible rfl);go_simp)
   refine aa rfl (by rfl) (v:=.agg (R.map nv).toArray) (λw' hw'=>ar 191 _ rfl gr rfl 191 _ (0,0) _ (Cs.o.r.later hw') underlying191 rfl IR.out) ?_;go_simp
   refine aU (f:=159) (args:=#[.slice (some ⟨ba,fz+p,none⟩) (q-p) (cap-p)]) rfl (by rfl) (by go_simp) ?_;refine(M8 ba (fz+p) (q-p) (cap-p) _ W1 Yl.o hq3).mono ?_;rintro e w3 ⟨rfl,eZ⟩;refine⟨_,rfl,eZ,?_⟩;obtain⟨D,hD⟩:=aW (fQ l (16*k) 16++1::cz (16-(q-p)) 0);have hDl:D.length=17:=by rw[←hD];have:=Yl.o.1;simp;omega
   have eD:fc D=rG l k:=by
    have e:fQ l (16*k) 16++1::cz (16-(q-p)) 0=(fQ l (16*k) 16++[1])++cz (16-(q-p)) 0:=by simp
    rw[←hD,e,M3];rfl
   rw[hD];have yS:ae (SM w key gr ga R A w3):=Cs.o.later eZ;clear hD eZ Yl Cs;go_simp
   refine aU (f:=156) (args:=#[.agg (D.map bv).toArray]) rfl (by rfl) (by go_simp) ?_;refine(Kt D w3 hDl).mono ?_;rintro e w4 ⟨rfl,js⟩;refine⟨_,rfl,js,?_⟩;rw[eD];obtain⟨N,hN⟩:=aW (nZ (rG l k));have Hu:N.length=5:=by rw[←hN,kn]
   have hNb:∀x∈N,x<67108864:=by rw[←hN];exact zF _
   rw[hN];have HM4:ae (SM w key gr ga R A w4):=yS.o.later js;clear js yS;go_simp
   refine aU (f:=158) (args:=#[.agg (A.map nv).toArray,.agg (N.map nv).toArray]) rfl (by rfl) (by go_simp) ?_;refine(Yg A N w4 hA.out.len Hu (λx hx=>Nat.lt_trans (hA.out.lt x hx) (by decide)) (λx hx=>Nat.lt_trans (hNb x hx) (by decide))).mono ?_;rintro e w5 ⟨rfl,iE⟩;refine⟨_,rfl,iE,?_⟩;obtain⟨S,hS⟩:=aW (iR A N 5);have T6:S.length=5:=by rw[←hS,gW];exact hA.out.len
   have Yj:∀x∈S,x<134217728:=by rw[←hS];exact Kp A N hA.out.len Hu hA.out.lt hNb
   rw[hS];have LZ:ae (SM w key gr ga R A w5):=HM4.o.later iE;clear iE HM4;go_simp
   refine aU (f:=160) (args:=#[.agg (S.map nv).toArray,.agg (R.map nv).toArray]) rfl (by rfl) (by go_simp) ?_;refine(QF S R w5 T6 wA Yj hRb).mono ?_;rintro e w6 ⟨rfl,lZ⟩;refine⟨_,rfl,lZ,?_⟩;obtain⟨A',hA'⟩:=aW (BW S R);have alH:A'.length=5:=by rw[←hA',Bn]
   have HAK:ae (AK key l (k+1) A'):=by have:=hA.out.next;rw[HR.o,hN,hS,hA'] at this;exact this
   rw[hA'];have T7:=LZ.o.later lZ;have xA:=aL w6 ga _ _ (A'.map nv) T7.a (by simp[alH,hA.out.len]) (mn A');have HM7:ae (SM w key gr ga R A' (w6.setRow ga (A'.map nv).toArray)):=T7.put A';clear lZ LZ T7;go_simp
   refine bp rfl (by rfl) (w':=w6.setRow ga (A'.map nv).toArray) (by go_simp) (by kernel_rfl) ?_;go_simp
   refine az cA ?_;clear xA
   go_wp2
   exact⟨⟨k+1,A',by omega,by go_num,HAK,HM7⟩,by simp[intOf];omega⟩
  ·have i1:¬(p:Int)<(len:Int):=by omega
   have hkn:k=Jw l.length:=by unfold Jw;omega
   have IA:ae ((prog.info? 191).map (·.size)=some (A.map nv).toArray.size):=lp A hA.out.len;obtain⟨T,hT⟩:=aW (tag key l);have sS:T.length=16:=by rw[←hT,CH]
   have HT:ae (zA 16 (fD A % gP+sY key)=T):=by show _=_;rw[hA.out.val,hkn,←hT];rfl
   have Sq:ae (tag key l=T):=hT;clear hT
   go_wp2_with (first|refine wpList_load_row rfl 191 _ rfl ga rfl 191 _ (0,0) _ hM.out.a underlying191 rfl IA.out ?_|refine wpList_load_row rfl 24 _ rfl w.heap.size rfl 24 _ (0,0) _ hM.out.key underlying24 rfl IK.out ?_)
   refine(Yi A key wr hA.out.len hA.out.lt hk).mono ?_;rintro e w3 ⟨rfl,eZ⟩;rw[HT.o];have vo:=hM.out.later eZ;have IT:ae ((prog.info? 171).map (·.size)=some (T.map bv).toArray.size):=Dt T sS;have xA:=aL w3 (w.heap.size+1) _ _ (T.map bv) vo.res (by simp[sS]) (bd T);have bh:=setRow_heap w3 (w.heap.size+1) _ (T.map bv).toArray _ _ vo.res;have bR:ae (Below w.heap.size w (w3.setRow (w.heap.size+1) (T.map bv).toArray)):=below_setRow vo.aY (by omega) _;obtain⟨W4,fj⟩:=aW (w3.setRow (w.heap.size+1) (T.map bv).toArray);rw[fj] at xA bh bR;have cY:ae (W4.heap[w.heap.size+1]?=some (.cells (T.map bv).toArray 171 (0,0))):=bh;clear bh fj vo eZ hM
   go_wp2
   (try simp only[nu,Exit.then])
   refine bodyPost_ret (results_cell_row rfl _ _ (w.heap.size+1) 171 _ (0,0) _ rfl cY.o underlying171 rfl IT.out) rfl ?_;exact⟨by rw[Sq.o],bR.o⟩
structure iX (s key aq:aO):Prop where
 eq:s=key++aq
 k:key.length=32
 n:aq.length=12
theorem iX.len {s key aq:aO}(h:iX s key aq):s.length=44:=by rw[h.eq,List.length_append,h.k,h.n]
theorem iX.key {s key aq:aO}(h:iX s key aq){w:aw}{g:Nat}{t:TypeId}(hA:dz w g t s):bj w (some ⟨g,0,none⟩) 32 key:=by
 have:=(hA.nw 44 h.len).cut (q:=32) (by omega)
 rwa [h.eq,←h.k,List.take_left,h.k] at this
theorem iX.aq {s key aq:aO}(h:iX s key aq){w:aw}{g:Nat}{t:TypeId}(hA:dz w g t s):bj w (some ⟨g,32,none⟩) 12 aq:=by
 have:=(hA.nw 44 h.len).sub (n:=32) (q:=44) (by omega) (by omega);have e:s.drop 32=aq:=by rw[h.eq,←h.k,List.drop_left]
 rw[e,su (by rw[h.n];omega)] at this
 simpa using this
theorem Dw (s key aq:aO)(hs:iX s key aq)(a:bW)(len cap:Nat)(l:aO)(w:aw)(hB:bj w a len l)(FW:len≤1000000)(ig:len≤cap)(m7:cap≤maxLen):
  Calls prog 137 #[.agg (s.map bv).toArray,.slice a len cap] w λe w'=>∃v,e= .returned v∧Below w.heap.size w w'∧w'.ownsRow w.heap.size 5 1 v len ((vW key 1#32 aq l).map bv):=by
 have hA:=dz.new w 178 s;have HK:ae (bj (w.alloc (.cells (s.map bv).toArray 178)) (some ⟨w.heap.size,0,none⟩) 32 key):=hs.key hA;have HN:ae (bj (w.alloc (.cells (s.map bv).toArray 178)) (some ⟨w.heap.size,32,none⟩) 12 aq):=hs.aq hA;have HB:ae (bj w a len l):=hB;clear hA hB
 go_enter func137,ntmps137
 go_wp2_with (first|refine eQ rfl 24 _ rfl w.heap.size 0 32 32 5 key rfl HK.o underlying24 (by kernel_rfl) ?_|refine eQ rfl 158 _ rfl w.heap.size 32 12 12 5 aq rfl HN.o underlying158 (by kernel_rfl) ?_)
 have ik:Below w.heap.size w (w.alloc (.cells (s.map bv).toArray 178)):=eF;refine(MW key aq 1#32 a len cap l _ hs.k hs.n (HB.o.later ik) FW ig m7).mono ?_;rintro e w1 ⟨v1,rfl,ck,cH⟩;have HO:ae (w1.ownsRow w.heap.size 5 1 v1 len ((vW key 1#32 aq l).map bv)):=bQ cH (by simp);have HW:ae (Below w.heap.size w w1):=ik.trans (ck.mono (by simp));clear ik ck cH HK HN HB
 go_wp2
 go_ret
 exact⟨_,rfl,HW.o,HO.o⟩
theorem Gc (a:bW)(len cap:Nat)(l:aO)(w:aw)(B:Nat)(hb:B≤w.heap.size)(hO:w.ownsRow B 5 1 (.slice a len cap) len (l.map bv))(FW:len≤10000):
  Calls prog 146 #[.slice a len cap] w λe w'=>∃v,e= .returned v∧Below B w w'∧w'.ownsRow B 5 1 v (len+iF len) ((jW l).map bv):=by
 have hl:l.length=len:=by have:=hO.1;rwa [List.length_map,Nat.mul_one] at this
 have f8:ae (w.ownsRow B 5 1 (.slice a len cap) len ((l++cz 0 0).map bv)):=by show World.ownsRow _ _ _ _ _ _ _;simpa using hO
 have fU:ae (Below B w w):=bZ _ _;clear hO
 go_enter func146,ntmps146
 go_wp2
 go_loopw [0] (λv wr=>∃(j n c:Nat) (a':bW),j≤iF len∧n=len+j∧v= .slice a' n c∧ae (wr.ownsRow B 5 1 (.slice a' n c) n ((l++cz j 0).map bv))∧ae (Below B w wr)) (λv _=>match v with| .slice _ n _=>len+iF len-n|_=>0)
 case atStart=>exact⟨0,len,cap,a,Nat.zero_le _,rfl,rfl,f8,fU⟩
 case round=>
  clear f8 fU;obtain⟨j,n,c,a',hj,hn,rfl,hO,hW⟩:=hrel
  by_cases dN:j<iF len
  ·have hr:(n:Int).tmod 16=((n % 16:Nat):Int):=by rw[Int.tmod_eq_emod_of_nonneg (by omega)];omega
   have eL:¬((n % 16:Nat):Int)=0:=by unfold iF at dN;omega
   obtain⟨r,zp⟩:=aW (n % 16);rw[zp] at hr eL;have hr3:(n:Int) % 16=(r:Int):=by omega
   have fW:bj (wr.alloc (.cells #[.int .u8 0] 5)) (some ⟨wr.heap.size,0,none⟩) 1 [0]:=jK _ [0] wr.heap.size _ _ _ (eC wr _) rfl;have jH:=hW.out.size;obtain⟨v2,w2,nD,cZ,kj⟩:=cI (wr.alloc (.cells #[.int .u8 0] 5)) B _ n _ (hO.out.alloc _) ⟨wr.heap.size,0,none⟩ 1 1 [0] fW (by simp;omega) (by unfold iF at dN;omega);rw[←TN] at cZ;obtain⟨a2,c2,rfl,_,_,_,_⟩:=bq cZ;have gM:ae ((Builtin.append_ #[22,22] 22 #[.slice a' n c,.slice (some ⟨wr.heap.size,0,none⟩) 1 1]).run prog (wr.alloc (.cells #[.int .u8 0] 5))= .ok (.slice a2 (n+1) c2) w2):=nD;have nW:ae (w2.ownsRow B 5 1 (.slice a2 (n+1) c2) (n+1) ((l++cz (j+1) 0).map bv)):=cZ;have fw:ae (Below B w w2):=(hW.out.alloc (kx hb jH) _).grown kj (by simp;omega) (λk hk=>(hO.out.lt k hk).1);have HN:ae (n+1=len+(j+1)):=by show _=_;omega
   have HM:ae (len+iF len-(n+1)<len+iF len-n):=by show _<_;omega
   clear nD cZ kj fW hO hW hn zp
   go_wp2_with (at_builtin;refine ao rfl (.tmp 7) (.tmp 8) 22 rfl _ _ _ _ rfl rfl gM.o ?_)
   exact⟨⟨j+1,n+1,c2,a2,by omega,HN.o,rfl,nW,fw⟩,by simpa using HM.o⟩
  ·have ej:j=iF len:=by omega
   have hr3:(n:Int) % 16=0:=by have:=Ao l;rw[hl] at this;omega
   have hr:(n:Int).tmod 16=0:=by rw[Int.tmod_eq_emod_of_nonneg (by omega)];exact hr3
   have HO:ae (wr.ownsRow B 5 1 (.slice a' n c) (len+iF len) ((jW l).map bv)):=by have h1:=hO.out;unfold jW;rw[hl,←ej,←hn];exact h1
   clear hn ej hO
   go_wp2
   go_ret
   exact⟨_,rfl,hW.out,HO.o⟩
theorem Dx (a:bW)(len cap:Nat)(w:aw)(FW:len≤1000000):
  Calls prog 147 #[.slice a len cap] w λe w'=>∃g,e= .returned (.slice (some ⟨g,0,none⟩) 8 8)∧w.heap.size≤g∧Below w.heap.size w w'∧bj w' (some ⟨g,0,none⟩) 8 (zA 8 len):=by
 have Fg:IntKind.u64.wrap (len:Int)=(len:Int):=by rw[IntKind.wrap_u64];omega
 go_enter func147,ntmps147
 go_wp2_with fail
 refine(ug none 0 0 8 len false [] _ (by omega) ⟨rfl,.inl rfl⟩ 8 (by decide)).mono ?_;rintro e w1 ⟨g,rfl,hg,hb,hB⟩;rw[Nat.zero_add] at hB⊢;have HB:ae (bj w1 (some ⟨g,0,none⟩) 8 (zA 8 len)):=hB;have HW:ae (Below w.heap.size w w1):=hb;clear hb hB
 go_wp2
 go_ret
 exact⟨g,rfl,hg,HW.o,HB.o⟩
theorem Dy (l:aO)(hl:l.length=32):(prog.info? 24).map (·.size)=some (l.map bv).toArray.size:=by
 have e1:(prog.info? 24).map (·.size)=some 32:=by kernel_rfl
 rw[e1];simp[hl]
theorem Na (s key aq:aO)(hs:iX s key aq)(w:aw):
  Calls prog 149 #[.agg (s.map bv).toArray] w λe w'=>e= .returned (.agg (((Fb key 0#32 aq).take 32).map bv).toArray)∧Below w.heap.size w w':=by
 obtain⟨a1,a0⟩:=qt w 178 s (cz 32 0) 24;have b1:Below w.heap.size w ((w.alloc (.cells (s.map bv).toArray 178)).alloc (.cells ((cz 32 0).map bv).toArray 24)):=eF.alloc (by simp) _;have HK:ae (bj ((w.alloc (.cells (s.map bv).toArray 178)).alloc (.cells ((cz 32 0).map bv).toArray 24)) (some ⟨w.heap.size,0,none⟩) 32 key):=hs.key a0;have HN:ae (bj ((w.alloc (.cells (s.map bv).toArray 178)).alloc (.cells ((cz 32 0).map bv).toArray 24)) (some ⟨w.heap.size,32,none⟩) 12 aq):=hs.aq a0;have HA:ae (dz ((w.alloc (.cells (s.map bv).toArray 178)).alloc (.cells ((cz 32 0).map bv).toArray 24)) (w.heap.size+1) 24 (cz 32 0)):=a1;have HW:ae (Below w.heap.size w ((w.alloc (.cells (s.map bv).toArray 178)).alloc (.cells ((cz 32 0).map bv).toArray 24))):=b1;clear a1 a0 b1
 go_enter func149,ntmps149
 go_wp2_with (first|refine eQ rfl 24 _ rfl w.heap.size 0 32 32 5 key rfl HK.o underlying24 (by kernel_rfl) ?_|refine eQ rfl 158 _ rfl w.heap.size 32 12 12 5 aq rfl HN.o underlying158 (by kernel_rfl) ?_)
 refine bY (P:=λW=>Calls prog _ _ W _) (R:=λW=>ae (dz W (w.heap.size+1) 24 (cz 32 0))∧ae (Below w.heap.size w W)) _ ⟨HA,HW⟩ ?_;rintro W0 ⟨HA0,pX⟩;clear HK HN HA HW;refine(F5 key aq 0#32 W0 hs.k hs.n).mono ?_;rintro e w1 ⟨rfl,ck⟩;obtain⟨B,O8⟩:=aW (Fb key 0#32 aq);have MV:B.length=64:=by rw[←O8];exact qg key _ aq
 rw[O8];have xA:=vk w1 B MV;obtain⟨W1,fg⟩:∃W,w1.alloc (.cells (B.map bv).toArray 142)=W:=⟨_,rfl⟩;have cM:Below W0.heap.size W0 W1:=by rw[←fg];exact ck.alloc ck.size _
 have HX:ae (bj W1 (some ⟨w1.heap.size,0,none⟩) 32 (B.take 32)):=by rw[←fg];exact((dz.new w1 142 B).nw 64 MV).cut (by omega)
 rw[fg] at xA;have Hv:=HA0.o.later cM;have pz:Below w.heap.size w W1:=pX.o.trans (cM.mono pX.o.size);obtain⟨C,hC⟩:=aW (B.take 32);have QI:C.length=32:=by rw[←hC];simp;omega
 rw[hC] at HX;have eO:=aL W1 (w.heap.size+1) _ _ (C.map bv) Hv (by simp[QI]) (bd C);have bh:=setRow_heap W1 (w.heap.size+1) _ (C.map bv).toArray _ _ Hv;have bR:ae (Below w.heap.size w (W1.setRow (w.heap.size+1) (C.map bv).toArray)):=below_setRow pz (by omega) _;obtain⟨W2,fV⟩:=aW (W1.setRow (w.heap.size+1) (C.map bv).toArray);rw[fV] at eO bh bR;have cY:ae (W2.heap[w.heap.size+1]?=some (.cells (C.map bv).toArray 24 (0,0))):=bh;have IC:ae ((prog.info? 24).map (·.size)=some (C.map bv).toArray.size):=Dy C QI;have HC:ae ((Fb key 0#32 aq).take 32=C):=by rw[O8];exact hC
 have hat:(Instr.arrayAt 24 (.slice (some ⟨w1.heap.size,0,none⟩) 32 64)).run prog W1= .ok (.pointer (some ⟨w1.heap.size,0,none⟩)) W1:=by simp[Instr.arrayAt,run_underlying underlying24]
 clear bh fV fg Hv pz ck cM HA0 pX O8 hC
 go_wp2_with (first|refine eQ rfl 24 _ rfl w1.heap.size 0 32 32 5 C rfl HX.o underlying24 (by kernel_rfl) ?_)
 (try simp only[nu,Exit.then])
 refine bodyPost_ret (results_cell_row rfl _ _ (w.heap.size+1) 24 _ (0,0) _ rfl cY.o underlying24 rfl IC.out) rfl ?_;exact⟨by rw[HC.o],bR.o⟩
structure TK (w:aw)(s:aO)(W:aw):Prop where
 s:dz W w.heap.size 178 s
 res:dz W (w.heap.size+1) 179 (cz 16 0)
 size:w.heap.size+1+1≤W.heap.size
 aY:Below w.heap.size w W
theorem TK.new (w:aw)(s:aO):TK w s ((w.alloc (.cells (s.map bv).toArray 178)).alloc (.cells ((cz 16 0).map bv).toArray 179)):=by obtain⟨a1,a0⟩:=qt w 178 s (cz 16 0) 179;exact⟨a0,a1,by simp,eF.alloc (by simp) _⟩
theorem TK.later {w W W':aw}{s:aO}(t:TK w s W)(hb:Below (w.heap.size+1+1) W W'):TK w s W':=
 ⟨t.s.below hb (by omega),t.res.below hb (by omega),kx t.size hb.size,t.aY.trans (hb.mono (by omega))⟩
theorem wC (l:aO)(hl:l.length=44):(prog.info? 178).map (·.size)=some (l.map bv).toArray.size:=by
 have e1:(prog.info? 178).map (·.size)=some 44:=by kernel_rfl
 rw[e1];simp[hl]
theorem QN (l:aO)(hl:l.length=16):(prog.info? 179).map (·.size)=some (l.map bv).toArray.size:=by
 have e1:(prog.info? 179).map (·.size)=some 16:=by kernel_rfl
 rw[e1];simp[hl]
theorem QO (x ct:aO)(h:x.length % 16=0):jW (x++ct)=x++jW ct:=by
 have e:iF (x++ct).length=iF ct.length:=by unfold iF;rw[List.length_append];omega
 unfold jW;rw[e,List.append_assoc]
theorem Dz (s key aq:aO)(hs:iX s key aq)(a:bW)(la ca:Nat)(ad:aO)(c:bW)(lc cc:Nat)(ct:aO)(w:aw)
  (hA:bj w a la ad) (Co:a=none→ca=0) (hC:bj w c lc ct) (O0:c=none→cc=0) (EU:la≤1100) (ig:lc≤1100):
  Calls prog 138 #[.agg (s.map bv).toArray,.slice a la ca,.slice c lc cc] w λe w'=>e= .returned (.agg ((jl key aq ad ct).map bv).toArray)∧Below w.heap.size w w':=by
 have HA:ae (bj w a la ad):=hA;have HC:ae (bj w c lc ct):=hC;have IS:ae ((prog.info? 178).map (·.size)=some (s.map bv).toArray.size):=wC s hs.len;have sB:ae (TK w s ((w.alloc (.cells (s.map bv).toArray 178)).alloc (.cells ((cz 16 0).map bv).toArray 179))):=TK.new w s;obtain⟨p1,uX⟩:∃p,la+lc=p:=⟨_,rfl⟩;obtain⟨p2,yM⟩:∃p,p1+32=p:=⟨_,rfl⟩;obtain⟨m0,Hw⟩:∃p,p2+16=p:=⟨_,rfl⟩;have e1:(la:Int)+(lc:Int)=(p1:Int):=by omega
 have e2:(p1:Int)+32=(p2:Int):=by omega
 have e3:(p2:Int)+16=(m0:Int):=by omega
 have alI:m0≤3000:=by omega
 have alJ:p1≤3000:=by omega
 have alK:p2≤3000:=by omega
 clear uX yM Hw;obtain⟨W0,gK⟩:=aW ((w.alloc (.cells (s.map bv).toArray 178)).alloc (.cells #[.int .u8 0,.int .u8 0,.int .u8 0,.int .u8 0,.int .u8 0,.int .u8 0,.int .u8 0,.int .u8 0,.int .u8 0,.int .u8 0,.int .u8 0,.int .u8 0,.int .u8 0,.int .u8 0,.int .u8 0,.int .u8 0] 179));have Hr:TK w s W0:=by rw[←gK];exact TK.new w s
 have DA:W0.heap.size=w.heap.size+1+1:=by rw[←gK];simp
 obtain⟨Z,hZ,vD⟩:=Aq W0 m0 (by omega);have tj:(W0.alloc (.cells Z.toArray 5)).ownsRow (w.heap.size+1+1) 5 1 (.slice (some ⟨W0.heap.size,0,none⟩) 0 m0) 0 (([]:aO).map bv):=
  World.ownsRow_made (base:=w.heap.size+1+1) (e:=5) (size:=1) W0 Z.toArray m0 (by omega) (by unfold maxLen;omega) (by simp[hZ])
 have QP:TK w s (W0.alloc (.cells Z.toArray 5)):=Hr.later ((bZ _ _).alloc (by omega) _);obtain⟨W1,fg⟩:=aW (W0.alloc (.cells Z.toArray 5));rw[fg] at tj QP vD;rw[DA] at tj vD;obtain⟨v2,w2,nD,cZ,kj⟩:=bx W1 (w.heap.size+1+1) _ 0 _ tj a la ca ad (HA.o.later QP.aY) Co QP.size (by omega);rw[Nat.zero_add,List.nil_append] at cZ;obtain⟨a2,c2,rfl,_,_,_,_⟩:=bq cZ;have vI:ae (TK w s w2):=QP.later ((bZ _ _).grown kj QP.size (λk hk=>(tj.lt k hk).1));have nW:ae (w2.ownsRow (w.heap.size+1+1) 5 1 (.slice a2 la c2) la (ad.map bv)):=cZ;have gM:ae ((Builtin.append_ #[22,22] 22 #[.slice (some ⟨w.heap.size+1+1,0,none⟩) 0 m0,.slice a la ca]).run prog W1= .ok (.slice a2 la c2) w2):=nD;clear nD cZ kj tj QP fg Hr DA hZ sB;rw[←gK] at vD;clear gK
 go_enter func138,ntmps138
 go_wp2_with (at_builtin;refine ao rfl (.tmp 16) (.tmp 17) 22 rfl _ _ _ _ rfl rfl gM.o ?_)
 clear gM vD e1 e2 e3 alI alJ alK;refine(Gc a2 la c2 ad w2 (w.heap.size+1+1) vI.o.size nW.o (by omega)).mono ?_;rintro e w3 ⟨v3,rfl,eZ,dt⟩;have Qv:=vI.o.later eZ;obtain⟨n3,CZ⟩:∃n,la+iF la=n:=⟨_,rfl⟩;have xr:iF la<16:=by unfold iF;omega
 have agy:n3≤1200:=by omega
 rw[CZ] at dt;obtain⟨v4,w4,km,iw,Bj⟩:=bx w3 (w.heap.size+1+1) v3 n3 _ dt c lc cc ct (HC.o.later Qv.aY) O0 Qv.size (by omega);obtain⟨a4,c4,rfl,_,_,_,_⟩:=bq iw;have xM:ae ((Builtin.append_ #[22,22] 22 #[v3,.slice c lc cc]).run prog w3= .ok (.slice a4 (n3+lc) c4) w4):=km;have lO:ae (TK w s w4):=Qv.later ((bZ _ _).grown Bj Qv.size (λk hk=>(dt.lt k hk).1));have DB:ae (w4.ownsRow (w.heap.size+1+1) 5 1 (.slice a4 (n3+lc) c4) (n3+lc) ((jW ad++ct).map bv)):=iw;clear km iw Bj dt eZ Qv vI nW CZ xr
 go_wp2_with (at_builtin;refine ao rfl (.tmp 20) (.tmp 21) 22 rfl _ _ _ _ rfl rfl xM.o ?_)
 clear xM;refine(Gc a4 (n3+lc) c4 _ w4 (w.heap.size+1+1) lO.o.size DB.o (by omega)).mono ?_;rintro e w5 ⟨v5,rfl,iE,nF⟩;have Ck:ae (TK w s w5):=lO.o.later iE;obtain⟨n5,LN⟩:∃n,n3+lc+iF (n3+lc)=n:=⟨_,rfl⟩;have xr:iF (n3+lc)<16:=by unfold iF;omega
 have agE:n5≤2400:=by omega
 rw[LN,QO _ _ (by rw[GU];exact Ao ad)] at nF;have tu:ae (w5.ownsRow (w.heap.size+1+1) 5 1 v5 n5 ((jW ad++jW ct).map bv)):=nF;clear nF iE lO DB LN xr
 go_wp2_with fail
 refine(Dx a la ca w5 (by omega)).mono ?_;rintro e w6 ⟨g6,rfl,T8,lZ,Qy⟩;have hT6:=Ck.o.later (lZ.mono Ck.o.size);have hO6:=tu.o.kept (cG lZ) (by
  rcases h:Value.ownBlock v5 with _|j
  ·exact .inl rfl
  ·exact .inr (by simp))
 obtain⟨v7,w7,zw,nT,He⟩:=cI w6 (w.heap.size+1+1) v5 n5 _ hO6 ⟨g6,0,none⟩ 8 8 _ Qy hT6.size (by omega);have I8:ae ((Builtin.append_ #[22,22] 22 #[v5,.slice (some ⟨g6,0,none⟩) 8 8]).run prog w6= .ok v7 w7):=zw;have HT7:ae (TK w s w7):=hT6.later ((bZ _ _).grown He hT6.size (λk hk=>(hO6.lt k hk).1));have Fq:ae (w7.ownsRow (w.heap.size+1+1) 5 1 v7 (n5+8) ((jW ad++jW ct++zA 8 la).map bv)):=nT;clear zw nT He hO6 hT6 lZ Qy T8 Ck tu
 go_wp2_with (at_builtin;refine ao rfl (.tmp 24) (.tmp 26) 22 rfl _ _ _ _ rfl rfl I8.o ?_)
 refine(Dx c lc cc w7 (by omega)).mono ?_;rintro e w8 ⟨g8,rfl,ql,i9,Bi⟩;clear I8;have hT8:=HT7.o.later (i9.mono HT7.o.size);have F6:=Fq.o.kept (cG i9) (by
  rcases h:Value.ownBlock v7 with _|j
  ·exact .inl rfl
  ·exact .inr (by simp))
 obtain⟨v9,w9,T9,DC,AL⟩:=cI w8 (w.heap.size+1+1) v7 (n5+8) _ F6 ⟨g8,0,none⟩ 8 8 _ Bi hT8.size (by omega);obtain⟨a9,c9,rfl,T',hc9,hm9,_⟩:=bq DC;have HA9:ae ((Builtin.append_ #[22,22] 22 #[v7,.slice (some ⟨g8,0,none⟩) 8 8]).run prog w8= .ok (.slice a9 (n5+8+8) c9) w9):=T9;have HT9:ae (TK w s w9):=hT8.later ((bZ _ _).grown AL hT8.size (λk hk=>(F6.lt k hk).1));have Pd:ae (bj w9 a9 (n5+8+8) (tagged ad ct)):=by unfold tagged;rw[HA.o.1,HC.o.1];exact T'
 have Hm9:ae (c9≤maxLen):=hm9;clear T9 DC AL F6 hT8 i9 Bi ql HT7 Fq T' hm9
 go_wp2_with (first|(at_builtin;refine ao rfl (.tmp 28) (.tmp 30) 22 rfl _ _ _ _ rfl rfl HA9.o ?_)|refine wpList_load_row rfl 178 _ rfl w.heap.size rfl 178 _ (0,0) _ HT9.o.s underlying178 rfl IS.out ?_)
 clear HA9;refine(Na s key aq hs w9).mono ?_;rintro e L0 ⟨rfl,ym⟩;have aci:ae (TK w s L0):=HT9.o.later (ym.mono HT9.o.size);have agU:ae (bj L0 a9 (n5+8+8) (tagged ad ct)):=Pd.o.later ym;obtain⟨KK,cA⟩:=aW ((Fb key 0#32 aq).take 32);have hKl:KK.length=32:=by rw[←cA];simp[qg]
 obtain⟨T,hT⟩:=aW (jl key aq ad ct);have sS:T.length=16:=by rw[←hT,jX]
 have Sq:ae (tag KK (tagged ad ct)=T):=by rw[←cA];exact hT
 have HTa:ae (jl key aq ad ct=T):=hT;rw[cA];clear ym HT9 Pd cA hT
 go_wp2_with fail
 refine(Yk KK a9 (n5+8+8) c9 _ L0 hKl agU.o (by omega) hc9 Hm9.o).mono ?_;rintro e DD ⟨rfl,Kv⟩;rw[Sq.o];have Ym:=aci.o.later (Kv.mono aci.o.size);have xA:=aL DD (w.heap.size+1) _ _ (T.map bv) Ym.res (by simp[sS]) (bd T);have bh:=setRow_heap DD (w.heap.size+1) _ (T.map bv).toArray _ _ Ym.res;have bR:ae (Below w.heap.size w (DD.setRow (w.heap.size+1) (T.map bv).toArray)):=below_setRow Ym.aY (by omega) _;obtain⟨W4,fj⟩:=aW (DD.setRow (w.heap.size+1) (T.map bv).toArray);rw[fj] at xA bh bR;have cY:ae (W4.heap[w.heap.size+1]?=some (.cells (T.map bv).toArray 179 (0,0))):=bh;have IT:ae ((prog.info? 179).map (·.size)=some (T.map bv).toArray.size):=QN T sS;clear bh fj Ym Kv aci agU
 go_wp2
 (try simp only[nu,Exit.then])
 refine bodyPost_ret (results_cell_row rfl _ _ (w.heap.size+1) 179 _ (0,0) _ rfl cY.o underlying179 rfl IT.out) rfl ?_;exact⟨by rw[HTa.o],bR.o⟩
theorem Pe (l:aO)(hl:l.length=12):(prog.info? 158).map (·.size)=some (l.map bv).toArray.size:=by
 have e1:(prog.info? 158).map (·.size)=some 12:=by kernel_rfl
 rw[e1];simp[hl]
theorem Hx (s key aq:aO)(hs:iX s key aq):prog.built 178 [(0,.agg (key.map bv).toArray),(1,.agg (aq.map bv).toArray)]=some (s.map bv).toArray:=by
 have h:∀parts,prog.built 178 parts=Instr.fill (#[(0,32),(32,12)][·]?) (cz 44 (Value.int .u8 0)).toArray parts:=λparts=>by kernel_rfl
 have hk:=hs.k;have hn:=hs.n;obtain⟨Z,hZ⟩:=aW (cz 44 (Value.int .u8 0));have Jy:Z.length=44:=by rw[←hZ,List.length_replicate]
 rw[h,hZ,jB _ _ 0 0 (key.map bv) _ (by simp[hk]) (by simp;omega),jB _ _ 1 32 (aq.map bv) _ (by simp[hn]) (by simp;omega),hs.eq];simp only[Instr.fill,List.take_zero,List.nil_append,List.length_map,hk,hn,Nat.zero_add];rw[List.take_left' (by simp[hk]),List.drop_eq_nil_of_le (by simp;omega),List.append_nil,List.map_append]
theorem sF (key aq s:aO)(hs:iX s key aq){ops:Array Oper}{rest:List Oper}{o:Oper}{a:Act}{w:aw}{Q:Exit→Act→aw→Prop}(hg:o.guard=none)(x y:Operand)(ho:o.op= .build 178 #[(0,x),(1,y)])
  (hx:a.eval x= .agg (key.map bv).toArray) (hy:a.eval y= .agg (aq.map bv).toArray)
  (h:wpList prog ops Q rest (a.put o.dst (.agg (s.map bv).toArray)) w):wpList prog ops Q (o::rest) a w:=
 wpList_buildTo hg _ _ ho _ rfl (s.map bv).toArray (by simp[hx,hy,Hx s key aq hs]) h
structure SQ (w:aw)(s:aO)(W:aw):Prop where
 s:dz W (w.heap.size+1+1) 178 s
 size:w.heap.size+1+1+1≤W.heap.size
 aY:Below w.heap.size w W
theorem SQ.new (w:aw)(s:aO)(o1 o2:Obj):SQ w s (((w.alloc o1).alloc o2).alloc (.cells (s.map bv).toArray 178)):=by
 refine⟨?_,by simp,(eF.alloc (by simp) _).alloc (by simp<;>omega) _⟩;have:=dz.new ((w.alloc o1).alloc o2) 178 s
 rwa [fx,fx] at this
theorem SQ.later {w W W':aw}{s:aO}(t:SQ w s W)(hb:Below (w.heap.size+1+1+1) W W'):SQ w s W':=
 ⟨t.s.below hb (by omega),kx t.size hb.size,t.aY.trans (hb.mono (by omega))⟩
theorem Ua (key aq:aO)(a:bW)(la ca:Nat)(ad:aO)(c:bW)(lc cc:Nat)(b:aO)(w:aw)(hk:key.length=32)(hn:aq.length=12)
  (hA:bj w a la ad) (Co:a=none→ca=0) (EU:la≤1000) (GY:la≤ca) (Hy:ca≤maxLen) (hC:bj w c lc b) (O0:c=none→cc=0) (ig:lc≤1000) (kZ:lc≤cc) (gB:cc≤maxLen):
  Calls prog 118 #[.agg (key.map bv).toArray,.agg (aq.map bv).toArray,.slice a la ca,.slice c lc cc] w λe w'=>∃v,e= .returned v∧Below w.heap.size w w'∧w'.ownsRow w.heap.size 5 1 v (lc+16) ((ku key aq ad b).map bv):=by
 have HA:ae (bj w a la ad):=hA;have HC:ae (bj w c lc b):=hC;obtain⟨s,hs⟩:∃s,iX s key aq:=⟨_,rfl,hk,hn⟩;have IK:ae ((prog.info? 24).map (·.size)=some (key.map bv).toArray.size):=Dy key hk;have IN:ae ((prog.info? 158).map (·.size)=some (aq.map bv).toArray.size):=Pe aq hn;have Ae:=hs.len;have IS:ae ((prog.info? 178).map (·.size)=some (s.map bv).toArray.size):=wC s hs.len;obtain⟨n1,n0⟩:=qt w 24 key aq 158;have QQ:ae (dz _ w.heap.size 24 key):=n0;have QR:ae (dz _ (w.heap.size+1) 158 aq):=n1;have e44:(prog.info? 178).map (·.size)=some 44:=by kernel_rfl
 have xA:=cJ ((w.alloc (.cells (key.map bv).toArray 24)).alloc (.cells (aq.map bv).toArray 158)) 178 s 44 hs.len e44;rw[fx,fx] at xA;have uo:ae (SQ w s (((w.alloc (.cells (key.map bv).toArray 24)).alloc (.cells (aq.map bv).toArray 158)).alloc (.cells (s.map bv).toArray 178))):=SQ.new w s _ _;clear hA hC n1 n0 e44
 go_enter func118,ntmps118
 go_wp2_with (first|refine wpList_load_row rfl 24 _ rfl w.heap.size rfl 24 _ (0,0) _ QQ.o underlying24 rfl IK.out ?_|refine wpList_load_row rfl 158 _ rfl (w.heap.size+1) rfl 158 _ (0,0) _ QR.o underlying158 rfl IN.out ?_|refine sF key aq s hs rfl (.tmp 12) (.tmp 13) rfl rfl rfl ?_|refine wpList_load_row rfl 178 _ rfl (w.heap.size+1+1) rfl 178 _ (0,0) _ uo.o.s underlying178 rfl IS.out ?_)
 clear xA QQ QR;refine bY (P:=λW=>Calls prog _ _ W _) (R:=λW=>ae (SQ w s W)) _ uo ?_;intro W0 ja;clear uo;refine(Dw s key aq hs c lc cc b W0 (HC.o.later ja.out.aY) (by omega) kZ gB).mono ?_;rintro e w1 ⟨v1,rfl,ck,cH⟩;obtain⟨X,hX⟩:=aW (vW key 1#32 aq b);rw[hX] at cH;obtain⟨a1,c1,rfl,pz,_,_,s9⟩:=bq cH;have gg:ae (SQ w s w1):=ja.out.later (ck.mono ja.out.size);have f8:ae (w1.ownsRow (w.heap.size+1+1+1) 5 1 (.slice a1 lc c1) lc (X.map bv)):=bQ cH ja.out.size;have iG:ae (bj w1 a1 lc X):=pz;have Hn1:ae (a1=none→c1=0):=s9;have HX:ae (vW key 1#32 aq b=X):=hX;clear cH ck pz s9 ja hX
 go_wp2_with (refine wpList_load_row rfl 178 _ rfl (w.heap.size+1+1) rfl 178 _ (0,0) _ gg.o.s underlying178 rfl IS.out ?_)
 refine(Dz s key aq hs a la ca ad a1 lc c1 X w1 (HA.o.later gg.o.aY) Co iG.o Hn1.o (by omega) (by omega)).mono ?_;rintro e w2 ⟨rfl,cM⟩;obtain⟨T,hT⟩:=aW (jl key aq ad X);have sS:T.length=16:=by rw[←hT,jX]
 rw[hT];have xA:=cJ w2 179 T 16 sS (by kernel_rfl);obtain⟨W3,nV⟩:=aW (w2.alloc (.cells (T.map bv).toArray 179));have eZ:Below w1.heap.size w1 W3:=by rw[←nV];exact cM.alloc cM.size _
 have wm:bj W3 (some ⟨w2.heap.size,0,none⟩) 16 T:=by rw[←nV];exact(dz.new w2 179 T).nw 16 sS
 rw[nV] at xA;have Fs:=gg.o.later (eZ.mono gg.o.size);have DE:=f8.o.kept (cG eZ) (by
  rcases h:Value.ownBlock (.slice a1 lc c1) with _|j
  ·exact .inl rfl
  ·exact .inr (by simp))
 obtain⟨v4,w4,km,iw,Bj⟩:=cI W3 (w.heap.size+1+1+1) _ lc _ DE ⟨w2.heap.size,0,none⟩ 16 16 _ wm Fs.size (by omega);have xM:ae ((Builtin.append_ #[22,22] 22 #[.slice a1 lc c1,.slice (some ⟨w2.heap.size,0,none⟩) 16 16]).run prog W3= .ok v4 w4):=km;have DB:ae (w4.ownsRow w.heap.size 5 1 v4 (lc+16) ((ku key aq ad b).map bv)):=by
  have e:ku key aq ad b=X++T:=by unfold ku;rw[HX.o,hT]
  show World.ownsRow _ _ _ _ _ _ _;rw[e];exact bQ iw (by omega)
 have Ci:ae (Below w.heap.size w w4):=Fs.aY.grown Bj (by have:=Fs.size;omega) (λk hk=>by have:=(DE.lt k hk).1;omega);clear km iw Bj DE Fs wm eZ nV cM hT gg f8 iG Hn1
 go_wp2_with (at_builtin;refine ao rfl (.tmp 22) (.tmp 23) 22 rfl _ _ _ _ rfl rfl xM.o ?_)
 go_ret
 exact⟨_,rfl,Ci.o,DB.o⟩
end Go.Proofs.YtkdpblbhcfhagaaGreatDoor
