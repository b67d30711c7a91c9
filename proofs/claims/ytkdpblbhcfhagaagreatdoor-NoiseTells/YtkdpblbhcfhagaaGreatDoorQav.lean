import Derived.Test.YtkdpblbhcfhagaaGreatDoorQau
namespace Go.Proofs.YtkdpblbhcfhagaaGreatDoor
open Go.Proofs.Tryz
open _root_.Nat renaming le_refl → di, le_trans → kx, lt_of_lt_of_le → tV
open Go.RowKit.Below renaming refl → bZ, heap_alloc → jE
open Go.World renaming size_alloc → fx
open _root_.Array renaming getElem?_eq_some_iff → gD
open Go renaming undef → ag, World → aw, heap_alloc_new → eC
open _root_.List renaming replicate → cz, not_mem_nil → nj, mem_cons → mg, take_of_length_le → su
open Go.Exit renaming inBlock → nu
set_option maxHeartbeats 64000000
set_option linter.unusedVariables false
set_option maxRecDepth 100000
def LL (x:Nat):List Bool→Nat→Nat
 |[],a=>a
 |true::l,a=>LL x l (a*a % bJ*x % bJ)
 |false::l,a=>LL x l (a*a % bJ)
def GK:List Bool→Nat→Nat
 |[],n=>n
 |true::l,n=>GK l (2*n+1)
 |false::l,n=>GK l (2*n)
theorem aaG (x:Nat):∀(l:List Bool) (n:Nat),LL x l (x^n % bJ)=x^GK l n % bJ
 |[],n=>rfl
 |true::l,n=>by
  have e:x^n % bJ*(x^n % bJ) % bJ*x % bJ=x^(2*n+1) % bJ:=by rw[←Nat.mul_mod,Nat.mod_mul_mod,Nat.pow_succ,Nat.two_mul,Nat.pow_add]
  rw[LL,GK,e];exact aaG x l (2*n+1)
 |false::l,n=>by
  have e:x^n % bJ*(x^n % bJ) % bJ=x^(2*n) % bJ:=by rw[←Nat.mul_mod,Nat.two_mul,Nat.pow_add]
  rw[LL,GK,e];exact aaG x l (2*n)
theorem RU:GK (oQ ui 255) 0=ui:=by decide+kernel
theorem Wc (x:Nat):LL x (oQ ui 255) 1=rj x:=by have h:=aaG x (oQ ui 255) 0;rw[RU] at h;exact h
def mC (K u:Nat):Nat:=match Ap u (oQ K 255) 1 0 u 1 with
 |(x,z)=>fM x (LL z (oQ ui 255) 1)
theorem aa5 (K u:Nat):mX K u=mC K u:=by
 unfold mX mC;generalize Ap u (oQ K 255) 1 0 u 1=r
 obtain⟨x,z⟩:=r;show fM x (rj z)=fM x (LL z (oQ ui 255) 1);rw[Wc]
def fI:aO:=1::cz 31 0
def fq:aO:=0::2::cz 30 0
def j9:aO:=0::3::cz 30 0
def nN:aO:=0::4::cz 30 0
def ael:Nat:=38364801680376176095104931134727467344853242694084186284833618170977744925613
def aem:Nat:=52573937849532372069814888178136277301931757964231753054399601207743438775599
def aen:Nat:=18153576102998169687324876004378560906340955796637970270314680120142542142707
def aeo:Nat:=7454598151748439524465027497692252936651263918629440369236281689138310625110
def aep:Nat:=51849114370274800988072900612005129664311798257016576663048510308333984160670
def aeq:Nat:=2747810551418579148632034480833006660011960989470850184425542823311908902621
def aer:Nat:=12189059948459668584200382652044974264814876926630157377363696310096137649306
def aes:Nat:=55021228276822177259698419422148955970973030407301062545272907027291389174685
theorem sf (k:aO)(n u m:Nat)(hn:fc k=n)(hu:u<bJ)(h:mC (fC n) u=m):mK k (zA 32 u)=m:=by rw[Xp _ _ hu,hn,aa5,h]
theorem pF {k:aO}{u m:Nat}(h:mK k (zA 32 u)=m):eH k (zA 32 u)=zA 32 m:=by unfold eH;rw[h]
theorem IU (k:aO)(n m:Nat)(hn:fc k=n)(h:mC (fC n) 9=m):bN k=zA 32 m:=by unfold bN;rw[hn,aa5,h]
theorem We:bN fI=zA 32 aem:=IU _ 1 _ (by decide) (by decide+kernel)
theorem Wf:bN fq=zA 32 ael:=IU _ 512 _ (by decide) (by decide+kernel)
theorem Wg:bN j9=zA 32 aen:=IU _ 768 _ (by decide) (by decide+kernel)
theorem ZI:bN nN=zA 32 aer:=IU _ 1024 _ (by decide) (by decide+kernel)
theorem aet:mK j9 (zA 32 ael)=aeo:=sf _ 768 _ _ (by decide) (by decide+kernel) (by decide+kernel)
theorem ajc:mK fq (zA 32 aen)=aeo:=sf _ 512 _ _ (by decide) (by decide+kernel) (by decide+kernel)
theorem aeu:mK fI (zA 32 ael)=aep:=sf _ 1 _ _ (by decide) (by decide+kernel) (by decide+kernel)
theorem ajd:mK fq (zA 32 aem)=aep:=sf _ 512 _ _ (by decide) (by decide+kernel) (by decide+kernel)
theorem aev:mK nN (zA 32 aen)=aeq:=sf _ 1024 _ _ (by decide) (by decide+kernel) (by decide+kernel)
theorem aje:mK j9 (zA 32 aer)=aeq:=sf _ 768 _ _ (by decide) (by decide+kernel) (by decide+kernel)
theorem aew:mK nN (zA 32 aem)=aes:=sf _ 1024 _ _ (by decide) (by decide+kernel) (by decide+kernel)
theorem ajf:mK fI (zA 32 aer)=aes:=sf _ 1 _ _ (by decide) (by decide+kernel) (by decide+kernel)
theorem ajg:DH fI fq j9 nN:=by
 refine⟨?_,?_,?_,?_,?_,?_,?_,?_,?_,?_,?_,?_⟩
 ·rw[Wg,Wf,pF ajc,pF aet]
 ·rw[We,Wf,pF ajd,pF aeu]
 ·rw[ZI,Wg,pF aje,pF aev]
 ·rw[ZI,We,pF ajf,pF aew]
 ·rw[Wf,aet];decide
 ·rw[Wf,aeu];decide
 ·rw[Wg,ajc];decide
 ·rw[We,ajd];decide
 ·rw[Wg,aev];decide
 ·rw[We,aew];decide
 ·rw[ZI,aje];decide
 ·rw[ZI,ajf];decide
def ajh:aO:=[187,234,2,43,148,140,243,188,88,87,215,8,4,34,145,121,225,17,107,196,12,184,204,7,72,53,52,156,70,75,202,54]
def aji:aO:=[202,152,239,80,156,122,172,120,255,128,135,99,242,212,51,234,40,195,215,122,155,82,150,201,125,143,119,136,66,90,244,211]
def ajj:aO:=[197,228,243,127,169,179,155,231,110,46,4,98,50,187,239,15,44,114,26,160,77,2,155,166,15,220,22,36,35,115,124,251]
def ajk:aO:=[28,231,238,248,11,117,28,247,85,229,90,71,18,120,164,245,15,13,59,44,215,209,113,132,102,54,24,23,46,87,128,11]
def IW:aO:=[142,209,50,253,143,242,20,144,67,221,208,16,115,98,25,39,254,134,181,76,216,7,70,235,74,192,72,136,163,76,45,211]
theorem an7:dU aZ=ajh:=by decide+kernel
theorem an8:gH ajh (zA 32 aeo)=aji:=by decide+kernel
theorem an9:gH aji (zA 32 aep)=ajj:=by decide+kernel
theorem an':gH ajj (zA 32 aeq)=ajk:=by decide+kernel
theorem aoa:gH ajk (zA 32 aes)=IW:=by decide+kernel
theorem aob:at8 (gH IW []) 0≠at8 (nS IW []) 0:=by decide+kernel
theorem Wh:gH (gH (gH (gH (dU aZ) (eH j9 (bN fq))) (eH fI (bN fq))) (eH nN (bN j9))) (eH nN (bN fI))=IW:=by rw[Wf,We,Wg,pF aet,pF aeu,pF aev,pF aew,an7,an8,an9,an',aoa]
theorem Wi:gH IW []≠nS IW []:=λh=>aob (by rw[h])
open Go.RowKit
theorem ET (w:aw)(A B K:aO)(hA:A.length=32)(hB:B.length=32)(hK:K.length=32):
  ∃X1 X2 X3,(storeCells ⟨w.heap.size,0,none⟩ (dM A true 0)).run prog (((w.alloc (.cells zo 42)).alloc (.cells zo 42)).alloc (.cells eY 24))= .ok () X1∧
   (storeCells ⟨w.heap.size+1,0,none⟩ (dM B true 0)).run prog X1= .ok () X2∧(storeCells ⟨w.heap.size+1+1,0,none⟩ (K.map bv)).run prog X2= .ok () X3∧
   nk X3 w.heap.size A true 0∧nk X3 (w.heap.size+1) B true 0∧dz X3 (w.heap.size+1+1) 24 K∧Below w.heap.size w X3:=by
 have h:=(((Vw.none w).alloc 42 aab).alloc 42 aab).alloc 24 bF;simp only[fx] at h;have h0:Vw w (((w.alloc (.cells aab.toArray 42)).alloc (.cells aab.toArray 42)).alloc (.cells bF.toArray 24)) (vM w):=h;have e1:(zo:Array Value)=aab.toArray:=by kernel_rfl
 have e2:(eY:Array Value)=bF.toArray:=by kernel_rfl
 rw[e1,e2];obtain⟨Y,hY⟩:=aW (((w.alloc (.cells aab.toArray 42)).alloc (.cells aab.toArray 42)).alloc (.cells bF.toArray 24));rw[hY] at h0⊢;obtain⟨Z1,Sz⟩:∃Z,Y.setRow w.heap.size (dM A true 0).toArray=Z:=⟨_,rfl⟩;obtain⟨Z2,Jf⟩:∃Z,Z1.setRow (w.heap.size+1) (dM B true 0).toArray=Z:=⟨_,rfl⟩;obtain⟨Z3,SA⟩:∃Z,Z2.setRow (w.heap.size+1+1) (K.map bv).toArray=Z:=⟨_,rfl⟩;have v1:=h0.put 0 w.heap.size 42 aab (dM A true 0) rfl;rw[Sz] at v1;have v2:=v1.put 1 (w.heap.size+1) 42 aab (dM B true 0) rfl;rw[Jf] at v2;have v3:=v2.put 2 (w.heap.size+1+1) 24 bF (K.map bv) rfl;rw[SA] at v3;have t1:=aL Y w.heap.size _ _ (dM A true 0) (h0.cell (w.heap.size,42,aab) (by simp[vM])) (by rw[dK,hA];exact ix.symm) (jL A true 0);rw[Sz] at t1;have t2:=aL Z1 (w.heap.size+1) _ _ (dM B true 0) (v1.cell (w.heap.size+1,42,aab) (by simp[vM])) (by rw[dK,hB];exact ix.symm) (jL B true 0);rw[Jf] at t2;have t3:=aL Z2 (w.heap.size+1+1) _ _ (K.map bv) (v2.cell (w.heap.size+1+1,24,bF) (by simp[vM])) (by simp[hK,bF]) (bd K);rw[SA] at t3;exact⟨Z1,Z2,Z3,t1,t2,t3,⟨v3.cell (w.heap.size,42,dM A true 0) (by simp[vM]),hA⟩,⟨v3.cell (w.heap.size+1,42,dM B true 0) (by simp[vM]),hB⟩,v3.cell (w.heap.size+1+1,24,K.map bv) (by simp[vM]),v3.aY⟩
theorem CA (W:aw)(l:aO)(cs:Array Value)(e:TypeId)(fr:Nat×Nat)(hc:cs=(l.map bv).toArray):bj (W.alloc (.cells cs e fr)) (some ⟨W.heap.size,0,none⟩) l.length l∧Below W.heap.size W (W.alloc (.cells cs e fr))∧(W.alloc (.cells cs e fr)).heap.size=W.heap.size+1:=
 ⟨jK _ l _ cs e fr (eC W _) hc,(bZ _ _).alloc (di _) _,fx _ _⟩
theorem Ac (x:NS):(NS.wU x).length=32:=by
 unfold NS.wU;split
 ·exact cS _ _
 ·exact cS _ _
theorem Ad (x:NS):(NS.wV x).length=32:=by
 unfold NS.wV;split
 ·exact cS _ _
 ·exact cS _ _
theorem IY (w:aw)(hT:TT w):Calls prog 4 #[] w λe w'=>e= .returned (.bool true)∧Below w.heap.size w w':=by
 have kd0:∀(W:aw) (C:Array Value) (n c:Nat),(convert 22 22 (.slice (some ⟨W.heap.size,0,none⟩) n c)).run prog (W.alloc (.cells C 5))= .ok (.slice (some ⟨W.heap.size,0,none⟩) n c) (W.alloc (.cells C 5 (C.size,C.size+1))):=λW C n c=>
  Lib.run_convert_bytes_const (P:=prog) W 22 5 C n c underlying22 underlying5
 have HT:=aj hT;have AG:=aj (NS.adV aZ [112] fI fq j9 nN [111,110,101] [116,119,111] ajg);have AC:ae ((NS.VH aZ [112] fI fq j9 nN [111,110,101] [116,119,111]).M.C=IW):=AG.out.ch.trans Wh;clear hT
 go_enter func4,ntmps4
 go_wp2_with fail
 obtain⟨xU,ik,ve⟩:=CA w [112] #[.int .u8 112] 5 (1,2) rfl;obtain⟨W0,gK⟩:∃W,w.alloc (.cells #[.int .u8 112] 5 (1,2))=W:=⟨_,rfl⟩;rw[gK] at xU ik ve;rw[gK];have EW:=aj xU;have pX:=aj ik;clear xU ik gK ve;refine(oz fq W0 rfl (HT.o.2.later pX.o)).mono ?_;rintro e w1 ⟨rfl,ck⟩;have wA:=eI fq;obtain⟨R,hR⟩:=aW (bN fq);have UU:zA 32 (mX (fC (fc fq)) 9)=R:=hR;rw[hR] at wA;rw[UU];have HR:=aj hR;have iG:=aj (EW.o.later ck);have fU:=aj (pX.o.trans (ck.mono pX.o.size));clear ck hR UU EW pX
 go_wp2_with fail
 refine(Et (some ⟨w.heap.size,0,none⟩) 1 1 [112] fI R j9 w1 rfl rfl wA iG.o (λe=>by cases e) (by omega) (by omega) (by unfold maxLen;omega) (HT.o.later fU.o)).mono ?_;rintro e w2 ⟨ga,rfl,hga,cM,hA⟩;have HA:=aj hA;have fw:=aj (fU.o.trans (cM.mono fU.o.size));have WZ:ae (w.heap.size≤ga):=kx fU.o.size hga;clear hA cM hga iG fU
 go_wp2_with fail
 obtain⟨wm,eZ,ur⟩:=CA w2 [112] #[.int .u8 112] 5 (1,2) rfl;obtain⟨w3,Mw⟩:∃W,w2.alloc (.cells #[.int .u8 112] 5 (1,2))=W:=⟨_,rfl⟩;rw[Mw] at wm eZ ur;rw[Mw];have nV:=fw.o.trans (eZ.mono fw.o.size);refine(BF (some ⟨w2.heap.size,0,none⟩) 1 1 [112] fq nN w3 rfl rfl wm (λe=>by cases e) (by omega) (by omega) (by unfold maxLen;omega) (HT.o.later nV)).mono ?_;rintro e w4 ⟨gb,rfl,hgb,js,hBd⟩;have aoc:ga<w2.heap.size:=HA.o.lt;have ajl:gb<w4.heap.size:=hBd.lt;have h24:=js.size;have UR:=(HA.o.later eZ).later js;rw[←HR.o] at UR;have HD:ae (Du w w4 w4.heap.size ga gb (NS.jn aZ [112] fI (bN fq) j9) (NS.answer aZ [112] fq nN)):=⟨nV.trans (js.mono nV.size),WZ.o,by omega,by have:=nV.size;omega,ajl,by omega,di _,UR,hBd,HT.o⟩;obtain⟨s,hs⟩:=aW (w4.heap.size);have aod:s≤w4.heap.size:=Nat.le_of_eq hs.symm;rw[hs] at HD;clear hs wm eZ ur Mw nV hgb js hBd aoc ajl h24 UR HA fw WZ
 go_wp2_with fail
 obtain⟨sP,iE,EV⟩:=CA w4 [111,110,101] #[.int .u8 111,.int .u8 110,.int .u8 101] 5 (3,4) rfl;obtain⟨w5,Mx⟩:∃W,w4.alloc (.cells #[.int .u8 111,.int .u8 110,.int .u8 101] 5 (3,4))=W:=⟨_,rfl⟩;rw[Mx] at sP iE EV;rw[Mx];have Ov:=aj (HD.o.later iE);refine(yH ga _ (some ⟨w4.heap.size,0,none⟩) 3 3 [111,110,101] w5 Ov.o.a sP (λe=>by cases e) (by omega) (by omega) (by unfold maxLen;omega) (λ_ y o f e=>by cases e;omega) Ov.o.tab Ov.o.ka).mono ?_;intro e w6 hE;obtain⟨v6,q6,rfl,D6,qo,hG6⟩:=Ov.o.VK hE;rw[AG.out.e1] at qo;rw[AG.out.e1];have HD6:ae (Du w w6 s ga gb (NS.Zo aZ [112] fI fq j9 [111,110,101]) (NS.answer aZ [112] fq nN)):=D6;have Cx:ae (w6.ownsRow s 5 1 v6 q6 ((NS.agX aZ [112] fI fq j9 [111,110,101]).map bv)):=qo;clear hE D6 qo hG6 sP iE EV Mx Ov HD aod;obtain⟨X,hX⟩:=aW (NS.agX aZ [112] fI fq j9 [111,110,101]);have HX:=aj hX;have hXl:X.length=99:=by rw[←hX];exact AG.out.l1
 rw[hX] at Cx;obtain⟨a6,c6,rfl,Qy,Sj,Jp,Qh,R0,BQ,R4⟩:=xm Cx.o;obtain rfl:q6=99:=by omega
 have O6:=aj Qy;have HN6:=aj Qh;have HL6:=aj R0;clear hX Qy Qh R0 BQ R4
 go_wp2_with fail
 refine(GD gb _ a6 99 c6 X w6 HD6.o.b O6.o HN6.o (by omega) Sj Jp (λ_=>HL6.o) HD6.o.tab HD6.o.kb).mono ?_;intro e w7 hE;obtain⟨v7,q7,rfl,D7,nT,Cz⟩:=HD6.o.aaU hE;rw[←HX.o,AG.out.e2] at nT;rw[←HX.o,AG.out.e2];rw[←HX.o] at D7;have HD7:ae (Du w w7 s ga gb (NS.Zo aZ [112] fI fq j9 [111,110,101]) (NS.bg1 aZ [112] fI fq j9 nN [111,110,101])):=D7;have Fq:ae (w7.ownsRow s 5 1 v7 q7 (([111,110,101]:aO).map bv)):=by rw[if_pos rfl,AG.out.o2] at nT;exact nT
 clear hE D7 nT Cz O6 HN6 HL6 Cx HD6 Sj Jp;obtain⟨a7,c7,rfl,yj,Rd,hm7,J1,XI,XJ,Tm⟩:=xm Fq.o;obtain rfl:q7=3:=Tm.symm;clear yj Rd hm7 J1 XI XJ Tm
 go_wp2_with fail
 obtain⟨Bi,i9,jm⟩:=CA w7 [116,119,111] #[.int .u8 116,.int .u8 119,.int .u8 111] 5 (3,4) rfl;obtain⟨w8,To⟩:∃W,w7.alloc (.cells #[.int .u8 116,.int .u8 119,.int .u8 111] 5 (3,4))=W:=⟨_,rfl⟩;rw[To] at Bi i9 jm;rw[To];have Sf:=aj (HD7.o.later i9);have Jk:=aj (kq Fq.o i9);refine(BG gb _ (some ⟨w7.heap.size,0,none⟩) 3 3 [116,119,111] w8 Sf.o.b Bi (λe=>by cases e) (by omega) (by omega) (by unfold maxLen;omega) (λ_ y o f e=>by cases e;omega) Sf.o.tab Sf.o.kb).mono ?_;intro e w9 hE;obtain⟨v9,q9,rfl,D9,DC,AZ⟩:=Sf.o.aaU hE;rw[AG.out.e3] at DC;rw[AG.out.e3];have HD9:ae (Du w w9 s ga gb (NS.Zo aZ [112] fI fq j9 [111,110,101]) (NS.VH aZ [112] fI fq j9 nN [111,110,101] [116,119,111])):=D9;have X7:ae (w9.ownsRow s 5 1 v9 q9 ((NS.agZ aZ [112] fI fq j9 nN [111,110,101] [116,119,111]).map bv)):=DC;have HOy:=aj (z9 Jk.o AZ Sf.o.b2);clear hE D9 DC AZ Bi i9 jm To Sf HD7 Fq Jk;obtain⟨Z,hZ⟩:=aW (NS.agZ aZ [112] fI fq j9 nN [111,110,101] [116,119,111]);have HZ:=aj hZ;have Jy:Z.length=51:=by rw[←hZ];exact AG.out.l3
 rw[hZ] at X7;obtain⟨a9,c9,rfl,T',hc9,hm9,hn9,hw9,Q9,hl9⟩:=xm X7.o;obtain rfl:q9=51:=by omega
 have Pd:=aj T';have HN9:=aj hn9;have HL9:=aj hw9;clear hZ T' hn9 hw9 Q9 hl9
 go_wp2_with fail
 refine(GF ga _ a9 51 c9 Z w9 HD9.o.a Pd.o HN9.o (by omega) hc9 hm9 (λ_=>HL9.o) HD9.o.tab HD9.o.ka).mono ?_;intro e L0 hE;obtain⟨v10,WT,rfl,D10,zP,RQ⟩:=HD9.o.VK hE;rw[←HZ.o,AG.out.e4] at zP;rw[←HZ.o,AG.out.e4];rw[←HZ.o] at D10;have Ow:ae (Du w L0 s ga gb (NS.ag2 aZ [112] fI fq j9 nN [111,110,101] [116,119,111]) (NS.VH aZ [112] fI fq j9 nN [111,110,101] [116,119,111])):=D10;have aey:ae (L0.ownsRow s 5 1 v10 WT (([116,119,111]:aO).map bv)):=by rw[if_pos rfl] at zP;have h:=AG.out.o4;rw[show NS.jo _ _=_ from h] at zP;exact zP
 replace HOy:=aj (z9 HOy.o RQ HD9.o.a2);clear hE D10 zP RQ Pd HN9 HL9 X7 HD9 hc9 hm9;obtain⟨Jh,yU,rfl,ZJ,Vl,aof,ajn,aog,aoh,ajo⟩:=xm aey.o;obtain rfl:WT=3:=ajo.symm;clear ZJ Vl aof ajn aog aoh ajo;obtain⟨x2,Ct⟩:=aW (NS.ag2 aZ [112] fI fq j9 nN [111,110,101] [116,119,111]);obtain⟨y2,Kg⟩:=aW (NS.VH aZ [112] fI fq j9 nN [111,110,101] [116,119,111]);have hm:=AG.out.m;have hsa:=AG.out.sa;have BU:=AG.out.sb;have hta:=AG.out.ta;have htb:=AG.out.tb;have Yj:=AG.out.Sb;rw[Ct,Kg] at Ow hm;rw[Ct] at hsa hta;rw[Kg] at BU htb Yj AC;obtain⟨D1,sT⟩:∃D,gH IW []=D:=⟨_,rfl⟩;obtain⟨D2,xj⟩:∃D,nS IW []=D:=⟨_,rfl⟩;have eL:D1≠D2:=by rw[←sT,←xj];exact Wi
 have k1:NS.wU x2=D1:=by unfold NS.wU;rw[if_pos hta,hm,AC.out,sT]
 have k2:NS.wV x2=D2:=by unfold NS.wV;rw[if_pos hta,hm,AC.out,xj]
 have k3:NS.wU y2=D2:=by unfold NS.wU;rw[if_neg (by rw[htb];decide),AC.out,xj]
 have k4:NS.wV y2=D1:=by unfold NS.wV;rw[if_neg (by rw[htb];decide),AC.out,sT]
 have l1:D1.length=32:=by rw[←k1];exact Ac _
 have l2:D2.length=32:=by rw[←k2];exact Ad _
 have HK:=aj (And.intro k1 (And.intro k2 (And.intro k3 k4)));have HNe:=aj eL;have HM:=aj hm;have HSA:=aj hsa;have WR:=aj BU;have HTA:=aj hta;have HSb:=aj Yj;clear Ct Kg hm hsa BU hta htb Yj sT xj eL k1 k2 k3 k4 AC;have WM:x2.M.H.length=32:=by obtain⟨sx,hsx⟩:=Ow.o.a;exact hsx.sd.mi.h
 obtain⟨H,hH⟩:=aW (x2.M.H);have hHy:y2.M.H=H:=by rw[←HM.o];exact hH
 rw[hH] at WM;have HH:=aj (And.intro hH hHy);clear hH hHy
 go_wp2_with fail
 refine(AW ga x2 L0 Ow.o.a Ow.o.tab HSA.o).mono ?_;rintro e DD ⟨rfl,Kv⟩;rw[HK.o.1,HK.o.2.1,HH.o.1];obtain⟨X1,X2,X3,s1,s2,s3,gi,jM,Cj,rV⟩:=ET DD D1 D2 H l1 l2 WM;simp only[zo,eY,cz] at s1;obtain⟨p,hp⟩:=aW (DD.heap.size);rw[hp] at s1 s2 s3 gi jM Cj;have hps:s≤p:=by rw[←hp];exact kx Ow.o.sz Kv.size
 have Wj:=aj ((Ow.o.later Kv).later rV);have PM:=aj (kq (kq HOy.o Kv) rV);have Re:=aj (kq (kq aey.o Kv) rV);have B5:=aj gi;have vR:=aj jM;have Jg:=aj Cj;have vg:(dM D1 true 0).length=34:=by rw[dK,l1]
 have Au:(dM D2 true 0).length=34:=by rw[dK,l2]
 have hlH:(H.map bv).length=32:=by simp[WM]
 clear gi jM Cj rV Kv Ow HOy aey
 go_wp2_with fail
 clear s1 s2 s3 hp;refine(AW gb y2 X3 Wj.o.b Wj.o.tab WR.o).mono ?_;rintro e w12 ⟨rfl,zO⟩;rw[HK.o.2.2.1,HK.o.2.2.2,HH.o.2];obtain⟨Y1,Y2,Y3,s1,s2,s3,hc4,WC,hk6,Ox⟩:=ET w12 D2 D1 H l2 l1 WM;simp only[zo,eY,cz] at s1;obtain⟨r,hr⟩:=aW (w12.heap.size);rw[hr] at s1 s2 s3 hc4 WC hk6;have hrs:s≤r:=by rw[←hr];exact kx Wj.o.sz zO.size
 have RV:=aj ((Wj.o.later zO).later Ox);replace PM:=aj (kq (kq PM.o zO) Ox);replace Re:=aj (kq (kq Re.o zO) Ox);replace B5:=aj ((B5.o.later zO).later Ox);replace vR:=aj ((vR.o.later zO).later Ox);replace Jg:=aj ((Jg.o.later zO).later Ox);have HC4:=aj hc4;have HC5:=aj WC;have HC6:=aj hk6;clear hc4 WC hk6 Ox zO Wj
 go_wp2_with fail
 clear s1 s2 s3 hr;refine(yH ga x2 none 0 0 [] Y3 RV.o.a ⟨rfl,.inl rfl⟩ (λ_=>rfl) (by omega) (by omega) (by unfold maxLen;omega) (λ_ y o f e=>by cases e) RV.o.tab RV.o.ka).mono ?_;intro e ZK hE;obtain⟨v13,q13,rfl,D13,_,IZ⟩:=RV.o.VK hE;have ajp:NS.dv x2=10:=by unfold NS.dv;rw[if_neg (λh=>by have:=h.2;rw[HSA.o] at this;cases this)]
 rw[ajp];have aez:=aj D13;have hga:=RV.o.a2;have HY:=aj (z9 PM.o IZ hga);have HW:=aj (z9 Re.o IZ hga);replace B5:=aj (B5.o.but IZ (by omega));replace vR:=aj (vR.o.but IZ (by omega));replace HC4:=aj (HC4.o.but IZ (by omega));replace HC5:=aj (HC5.o.but IZ (by omega));have aon:ae (dz ZK (p+1+1) 24 H):=by show _=_;rw[IZ.block _ Jg.o.lt (λe=>by cases e;omega)];exact Jg.o
 have aoo:ae (dz ZK (r+1+1) 24 H):=by show _=_;rw[IZ.block _ HC6.o.lt (λe=>by cases e;omega)];exact HC6.o
 obtain⟨_,_,e7,yj,_,_,_⟩:=bq HY.o;cases e7
 obtain⟨_,_,e10,ZJ,_,_,_⟩:=bq HW.o;cases e10
 have q1:=eG ZK a7 3 c7 [111,110,101] yj;have q2:=eG ZK Jh 3 yU [116,119,111] ZJ;have Fo:(S [111,110,101]).toList=[111,110,101]:=zg _;have rq:(S [116,119,111]).toList=[116,119,111]:=zg _;have HQ1:=aj (Td ZK D1 D1 true true 0 0 l1 l1);have HQ2:=aj (Td ZK D2 D2 true true 0 0 l2 l2);have HQ3:=aj (Td ZK D1 D2 true true 0 0 l1 l2);have rb:decide (D1=D1∧true=true∧0=0)=true:=decide_eq_true (And.intro rfl (And.intro rfl rfl));have xi:decide (D2=D2∧true=true∧0=0)=true:=decide_eq_true (And.intro rfl (And.intro rfl rfl));have K7:decide (D1=D2∧true=true∧0=0)=false:=decide_eq_false (λh=>HNe.o h.1);rw[rb] at HQ1;rw[xi] at HQ2;rw[K7] at HQ3;have q3:=G8 ZK 24 32 H H WM WM underlying24;rw[decide_eq_true rfl] at q3;have Fi:=aj (wR WM);clear hE D13 IZ PM Re Jg HC6 HY HW rb xi K7 yj ZJ RV ajp kd0
 go_wp2_with (first|(refine eV (by rfl) 42 (.tmp 11) rfl p rfl 42 (dM D1 true 0).toArray (0,0) _ B5.o.row underlying42 rfl (gF D1 true 0 l1) ?_;refine eV (by rfl) 42 (.tmp 16) rfl (r+1) rfl 42 (dM D1 true 0).toArray (0,0) _ HC5.o.row underlying42 rfl (gF D1 true 0 l1) ?_;refine yc false (by rfl) (.tmp 129) (.tmp 130) 42 42 rfl (dM D1 true 0).toArray (dM D1 true 0).toArray rfl rfl eqGuardType42 true HQ1.o ?_;go_wp2_with (first|(refine eV (by rfl) 42 (.tmp 12) rfl (p+1) rfl 42 (dM D2 true 0).toArray (0,0) _ vR.o.row underlying42 rfl (gF D2 true 0 l2) ?_;refine eV (by rfl) 42 (.tmp 15) rfl r rfl 42 (dM D2 true 0).toArray (0,0) _ HC4.o.row underlying42 rfl (gF D2 true 0 l2) ?_;refine yc false (by rfl) (.tmp 134) (.tmp 135) 42 42 rfl (dM D2 true 0).toArray (dM D2 true 0).toArray rfl rfl eqGuardType42 true HQ2.o ?_;go_wp2_with (first|(refine eV (by rfl) 24 (.tmp 13) rfl (p+1+1) rfl 24 (H.map bv).toArray (0,0) _ aon.o underlying24 rfl Fi.o ?_;refine eV (by rfl) 24 (.tmp 17) rfl (r+1+1) rfl 24 (H.map bv).toArray (0,0) _ aoo.o underlying24 rfl Fi.o ?_;go_wp2_with (first|(refine eV (by rfl) 42 (.tmp 11) rfl p rfl 42 (dM D1 true 0).toArray (0,0) _ B5.o.row underlying42 rfl (gF D1 true 0 l1) ?_;refine eV (by rfl) 42 (.tmp 12) rfl (p+1) rfl 42 (dM D2 true 0).toArray (0,0) _ vR.o.row underlying42 rfl (gF D2 true 0 l2) ?_;refine yc true (by rfl) (.tmp 144) (.tmp 145) 42 42 rfl (dM D1 true 0).toArray (dM D2 true 0).toArray rfl rfl eqGuardType42 false HQ3.o ?_;go_wp2_with fail)|fail))|fail))|fail))|fail)
 refine(Eu gb y2 ZK aez.o.b).mono ?_;rintro e w14 ⟨rfl,ajq,_⟩;rw[HSb.o];have aeA:=aj (aez.o.later ajq);clear ajq aez q3 q1 q2 Fo rq;have aeB:=eI fI;obtain⟨R2,F0⟩:∃R,bN fI=R:=⟨_,rfl⟩;have AD:ae (zA 32 (mX (fC (fc fI)) 9)=R2):=F0;rw[F0] at aeB;rw[F0];clear F0
 go_wp2_with fail
 refine(oz fI w14 rfl aeA.o.tab.2).mono ?_;rintro e w15 ⟨rfl,ajr⟩;rw[AD.o];have aop:=aj (aeA.o.later ajr);clear ajr aeA;have q3:=G8 w15 24 32 R2 R2 aeB aeB underlying24;rw[decide_eq_true rfl] at q3
 go_wp2_with fail
 go_ret
 exact⟨rfl,aop.o.aY⟩
theorem Wk (w:aw):
  ∃X1 X2 X3,(storeCells ⟨w.heap.size,0,none⟩ aab).run prog (((w.alloc (.cells zo 42)).alloc (.cells zo 42)).alloc (.cells eY 24))= .ok () X1∧
   (storeCells ⟨w.heap.size+1,0,none⟩ aab).run prog X1= .ok () X2∧(storeCells ⟨w.heap.size+1+1,0,none⟩ bF).run prog X2= .ok () X3∧(nk X3 w.heap.size (cz 32 0) false 0∧nk X3 (w.heap.size+1) (cz 32 0) false 0∧dz X3 (w.heap.size+1+1) 24 (cz 32 0))∧Below w.heap.size w X3:=by
 have h:=(((Vw.none w).alloc 42 aab).alloc 42 aab).alloc 24 bF;simp only[fx] at h;have h0:Vw w (((w.alloc (.cells aab.toArray 42)).alloc (.cells aab.toArray 42)).alloc (.cells bF.toArray 24)) (vM w):=h;have e1:(zo:Array Value)=aab.toArray:=by kernel_rfl
 have e2:(eY:Array Value)=bF.toArray:=by kernel_rfl
 rw[e1,e2];obtain⟨Y,hY⟩:=aW (((w.alloc (.cells aab.toArray 42)).alloc (.cells aab.toArray 42)).alloc (.cells bF.toArray 24));rw[hY] at h0⊢;have v1:=h0.put 0 w.heap.size 42 aab aab rfl;have v2:=v1.put 1 (w.heap.size+1) 42 aab aab rfl;have v3:=v2.put 2 (w.heap.size+1+1) 24 bF bF rfl;have o1:∀v∈aab,v.oneCell'=true:=jL (cz 32 0) false 0;have o2:∀v∈bF,v.oneCell'=true:=bd (cz 32 0);exact⟨_,_,_,aL Y w.heap.size _ _ aab (h0.cell (w.heap.size,42,aab) (by simp[vM])) (by simp) o1,aL _ (w.heap.size+1) _ _ aab (v1.cell (w.heap.size+1,42,aab) (by simp[vM])) (by simp) o1,
  aL _ (w.heap.size+1+1) _ _ bF (v2.cell (w.heap.size+1+1,24,bF) (by simp[vM])) (by simp) o2,⟨⟨v3.cell (w.heap.size,42,aab) (by simp[vM]),rfl⟩,⟨v3.cell (w.heap.size+1,42,aab) (by simp[vM]),rfl⟩,v3.cell (w.heap.size+1+1,24,bF) (by simp[vM])⟩,v3.aY⟩
theorem GL (w:aw)(A B:bK)(hA:A.length=3)(hB:B.length=3)(oA:∀v∈A,v.oneCell'=true)(oB:∀v∈B,v.oneCell'=true):
  ∃X1 X2,(storeCells ⟨w.heap.size,0,none⟩ A).run prog ((w.alloc (.cells #[.slice none 0 0,.bool false,.int .u64 0] 46)).alloc (.cells #[.slice none 0 0,.bool false,.int .u64 0] 46))= .ok () X1∧(storeCells ⟨w.heap.size+1,0,none⟩ B).run prog X1= .ok () X2∧
   X2.heap[w.heap.size]?=some (.cells A.toArray 46 (0,0))∧X2.heap[w.heap.size+1]?=some (.cells B.toArray 46 (0,0))∧Below w.heap.size w X2:=by
 obtain⟨c0,kt⟩:∃c:Array Value,#[Value.slice none 0 0,.bool false,.int .u64 0]=c:=⟨_,rfl⟩;have ve:c0.size=3:=by rw[←kt];rfl
 rw[kt];obtain⟨W,hW⟩:=aW ((w.alloc (.cells c0 46)).alloc (.cells c0 46));have h1:W.heap[w.heap.size]?=some (.cells c0 46 (0,0)):=by rw[←hW,jE _ _ _ (by simp),eC]
 have h2:W.heap[w.heap.size+1]?=some (.cells c0 46 (0,0)):=by have:=eC (w.alloc (.cells c0 46)) (.cells c0 46);rw[fx] at this;rw[←hW];exact this
 have fe:Below w.heap.size w W:=by rw[←hW];exact eF.alloc (by simp) _
 have s1:=aL W w.heap.size _ _ A h1 (by rw[hA,ve]) oA;have r1:=setRow_heap W w.heap.size _ A.toArray _ _ h1;have r2:(W.setRow w.heap.size A.toArray).heap[w.heap.size+1]?=_:=(setRow_other W w.heap.size (w.heap.size+1) _ (by omega)).trans h2;have ck:=below_setRow fe (di _) A.toArray;obtain⟨X1,jN⟩:∃X,W.setRow w.heap.size A.toArray=X:=⟨_,rfl⟩;rw[jN] at s1 r1 r2 ck;have s2:=aL X1 (w.heap.size+1) _ _ B r2 (by rw[hB,ve]) oB;have t1:(X1.setRow (w.heap.size+1) B.toArray).heap[w.heap.size]?=_:=(setRow_other X1 (w.heap.size+1) w.heap.size _ (by omega)).trans r1;have t2:=setRow_heap X1 (w.heap.size+1) _ B.toArray _ _ r2;rw[hW];exact⟨X1,_,s1,s2,t1,t2,below_setRow ck (by omega) _⟩
theorem PN (K:aO)(hK:K.length=32)(b o c:Nat)(w:aw)(hB:bj w (some ⟨b,o,none⟩) 32 K):
  Calls prog 21 #[.agg (dM K true 0).toArray,.slice (some ⟨b,o,none⟩) 32 c,.bool true] w λe w'=>e= .returned (.bool true)∧Below w.heap.size w w':=by
 have hC:=nk.new w K true 0 hK;have kW:Below w.heap.size w (w.alloc (.cells (dM K true 0).toArray 42)):=eF;obtain⟨L,hL⟩:=aW (dM K true 0);rw[hL] at kW;obtain⟨V,hV⟩:=aW (w.alloc (.cells L.toArray 42));rw[hL,hV] at hC;rw[hV] at kW;obtain⟨W,hW⟩:=aW (V.drew);have cL:Below V.heap.size V W:=by rw[←hW];exact gl
 have pd:=aj hW;have Qr:=aj (hC.later cL);have gx:=aj (kW.trans (cL.mono kW.size));have pJ:=aj (hB.later gx.o);have z1:=Ba K K;have HLk:ae (∀w',bM W w'→w'.cell? ⟨w.heap.size,32,none⟩=some (.bool true)∧w'.cell? ⟨w.heap.size,33,none⟩=some (.int .u64 0)∧(convert 22 9 (.slice (some ⟨w.heap.size,0,none⟩) 32 32)).run prog w'= .ok (.string (S K)) w'∧(convert 22 9 (.slice (some ⟨b,o,none⟩) 32 c)).run prog w'= .ok (.string (S K)) w'):=λw' hw'=>⟨(Qr.o.later hw').LM.1,(Qr.o.later hw').num.1,eG w' _ 32 32 K (Qr.o.later hw').At,eG w' _ 32 c K (pJ.o.later hw')⟩;have hV':=hV;rw[hL];clear hW cL hC kW hL hB
 go_enter func21,ntmps21
 go_wp2_with fail
 clear hV hV';refine ah (G:=bM) (by kernel_rfl) bM.refl bM.trans (by kernel_rfl) [(0,true),(1,true),(2,true),(3,true),(4,true),(5,true),(6,true),(7,true),(8,true),(9,true),(10,true),(11,true),(12,true),(13,true),(14,true),(15,true),(16,true),(17,true),(18,true),(19,true),(20,true),(21,true)] rfl (by kernel_rfl) ?_;intro KK cA;rw[pd.o]
 iterate 22 (refine aa rfl (by rfl) (v:=?_) ?_ ?_;rotate_left;(intro w' hw';obtain⟨q0,q1,q2,q3⟩:=HLk.o w' hw';clear hw';go_simp;with_reducible rfl);go_simp)
 refine az cA ?_;clear cA HLk
 go_wp2_with fail
 go_ret
 exact⟨rfl,gx.o⟩
theorem PO (w:aw):
  Calls prog 21 #[.agg (dM (cz 32 0) false 0).toArray,.slice none 0 0,.bool false] w λe w'=>e= .returned (.bool true)∧Below w.heap.size w w':=by
 have hC:=nk.new w (cz 32 0) false 0 rfl;have kW:Below w.heap.size w (w.alloc (.cells (dM (cz 32 0) false 0).toArray 42)):=eF;obtain⟨L,hL⟩:=aW (dM (cz 32 0) false 0);rw[hL] at kW;obtain⟨V,hV⟩:=aW (w.alloc (.cells L.toArray 42));rw[hL,hV] at hC;rw[hV] at kW;obtain⟨W,hW⟩:=aW (V.drew);have cL:Below V.heap.size V W:=by rw[←hW];exact gl
 have pd:=aj hW;have Qr:=aj (hC.later cL);have gx:=aj (kW.trans (cL.mono kW.size));have HLk:ae (∀w',bM W w'→w'.cell? ⟨w.heap.size,32,none⟩=some (.bool false)∧w'.cell? ⟨w.heap.size,33,none⟩=some (.int .u64 0)):=λw' hw'=>⟨(Qr.o.later hw').LM.1,(Qr.o.later hw').num.1⟩;have hV':=hV;rw[hL];clear hW cL hC kW hL
 go_enter func21,ntmps21
 go_wp2_with fail
 clear hV hV';refine ah (G:=bM) (by kernel_rfl) bM.refl bM.trans (by kernel_rfl) [(0,true),(1,true),(2,true),(3,true),(4,true),(5,true),(6,true),(7,true),(8,true),(9,true),(10,true),(11,true),(12,true),(13,true),(14,true),(15,true),(16,true),(17,true),(18,true),(19,true),(20,true),(21,true)] rfl (by kernel_rfl) ?_;intro KK cA;rw[pd.o]
 iterate 13 (refine aa rfl (by rfl) (v:=?_) ?_ ?_;rotate_left;(intro w' hw';obtain⟨q0,q1⟩:=HLk.o w' hw';clear hw';go_simp;with_reducible rfl);go_simp)
 iterate 6 (refine dw rfl (by rfl) ?_;go_simp)
 iterate 3 (refine aa rfl (by rfl) (v:=?_) ?_ ?_;rotate_left;(intro w' hw';obtain⟨q0,q1⟩:=HLk.o w' hw';clear hw';go_simp;with_reducible rfl);go_simp)
 refine az cA ?_;clear cA HLk
 go_wp2_with fail
 go_ret
 exact⟨rfl,gx.o⟩
structure Oy (W:aw)(kb u v hx:Nat)(SS K1 K2 H:aO)(has:Bool)(s1 s2:Value)(sb so sc:Nat):Prop where
 k:dz W kb 24 SS
 kl:SS.length=32
 c1:nk W u K1 has 0
 c2:nk W (u+1) K2 has 0
 h3:dz W (u+1+1) 24 H
 hl:H.length=32
 f1:W.cell? ⟨v,0,none⟩=some s1
 f2:W.cell? ⟨v+1,0,none⟩=some s2
 d4:W.cell? ⟨hx,4,none⟩=some (.slice (some ⟨sb,so,none⟩) 32 sc)
 dS:bj W (some ⟨sb,so,none⟩) 32 SS
section
variable {W W':aw} {kb u v hx sb so sc mx hb ho hc:Nat} {SS K1 K2 H:aO} {has:Bool} {s1 s2:Value}
theorem Oy.later (h:Oy W kb u v hx SS K1 K2 H has s1 s2 sb so sc)(hb:Below W.heap.size W W'):Oy W' kb u v hx SS K1 K2 H has s1 s2 sb so sc:=
 ⟨h.k.later hb,h.kl,h.c1.later hb,h.c2.later hb,h.h3.later hb,h.hl,cell_later hb h.f1,cell_later hb h.f2,cell_later hb h.d4,h.dS.later hb⟩
theorem Oy.looks (h:Oy W kb u v hx SS K1 K2 H has s1 s2 sb so sc):(convert 22 9 (.slice (some ⟨kb,0,none⟩) 32 32)).run prog W= .ok (.string (S SS)) W∧W.cell? ⟨hx,4,none⟩=some (.slice (some ⟨sb,so,none⟩) 32 sc)∧(convert 22 9 (.slice (some ⟨sb,so,none⟩) 32 sc)).run prog W= .ok (.string (S SS)) W∧W.cell? ⟨v,0,none⟩=some s1∧W.cell? ⟨v+1,0,none⟩=some s2:=
 ⟨eG W _ 32 32 SS (h.k.nw 32 h.kl),h.d4,eG W _ 32 sc SS h.dS,h.f1,h.f2⟩
structure GM (W:aw)(u hx mx hb ho hc:Nat)(H:aO):Prop where
 h3:dz W (u+1+1) 24 H
 hl:H.length=32
 d0:W.cell? ⟨hx,0,none⟩=some (.pointer (some ⟨mx,0,none⟩))
 m1:W.cell? ⟨mx,1,none⟩=some (.slice (some ⟨hb,ho,none⟩) 32 hc)
 bH:bj W (some ⟨hb,ho,none⟩) 32 H
theorem GM.later (h:GM W u hx mx hb ho hc H)(cU:Below W.heap.size W W'):GM W' u hx mx hb ho hc H:=
 ⟨h.h3.later cU,h.hl,cell_later cU h.d0,cell_later cU h.m1,h.bH.later cU⟩
theorem GM.looks (h:GM W u hx mx hb ho hc H):(convert 22 9 (.slice (some ⟨u+1+1,0,none⟩) 32 32)).run prog W= .ok (.string (S H)) W∧W.cell? ⟨hx,0,none⟩=some (.pointer (some ⟨mx,0,none⟩))∧W.cell? ⟨mx,1,none⟩=some (.slice (some ⟨hb,ho,none⟩) 32 hc)∧(convert 22 9 (.slice (some ⟨hb,ho,none⟩) 32 hc)).run prog W= .ok (.string (S H)) W:=
 ⟨eG W _ 32 32 H (h.h3.nw 32 h.hl),h.d0,h.m1,eG W _ 32 hc H h.bH⟩
end
end Go.Proofs.YtkdpblbhcfhagaaGreatDoor
