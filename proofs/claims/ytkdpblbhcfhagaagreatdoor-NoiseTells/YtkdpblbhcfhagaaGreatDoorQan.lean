import Derived.Test.YtkdpblbhcfhagaaGreatDoorQam
import Derived.Test.YtkdpblbhcfhagaaGreatDoorQal
import Derived.Recover
namespace Go.Proofs.YtkdpblbhcfhagaaGreatDoor
open Go.Proofs.Tryz
open _root_.Nat renaming le_refl → di, le_trans → kx, lt_of_lt_of_le → tV
open Go.RowKit.Below renaming refl → bZ, heap_alloc → jE
open Go.World renaming size_alloc → fx
open _root_.Array renaming getElem?_eq_some_iff → gD
open Go renaming undef → ag, World → aw, heap_alloc_new → eC
open _root_.List renaming replicate → cz, not_mem_nil → nj, mem_cons → mg, take_of_length_le → su
open Go.Exit renaming inBlock → nu
set_option maxHeartbeats 64000000
set_option linter.unusedVariables false
set_option maxRecDepth 100000
open Go.RowKit
theorem adh:∀n:Fin 256,bits .and .u8 ((n.val:Nat):Int) 248=((n.val/8*8:Nat):Int):=by decide+kernel
theorem adi:∀n:Fin 256,bits .and .u8 ((n.val:Nat):Int) 127=((n.val % 128:Nat):Int):=by decide+kernel
theorem BC (n:Nat)(h:n<256):(UInt8.ofNat n).toNat=n:=by simp;omega
theorem aib:∀n:Fin 256,bits .or .u8 (bits .and .u8 ((n.val:Nat):Int) 127) 64=((n.val % 64+64:Nat):Int):=by decide+kernel
theorem aic:∀n:Fin 256,bits .and .u8 ((n.val:Nat):Int) 1=((n.val % 2:Nat):Int):=by decide+kernel
def At (k:aO):aO:=(k.set 0 (UInt8.ofNat ((at8 k 0).toNat/8*8))).set 31 (UInt8.ofNat ((at8 k 31).toNat % 64+64))
theorem BD (k:aO):(At k).length=k.length:=by simp[At]
theorem YY:∀(k:aO),k.length=32→∃a m z,k=a::(m++[z])∧m.length=30:=by
 intro k hk
 match k,hk with
 |a::r,hk=>
  have hr:r.length=31:=by simpa using hk
  have eL:r≠[]:=λe=>by rw[e] at hr;cases hr
  exact⟨a,r.dropLast,r.getLast eL,by rw[List.dropLast_concat_getLast],by simp[hr]⟩
theorem Vh (k:aO)(hk:k.length=32):fc (At k)=fC (fc k):=by
 obtain⟨a,m,z,rfl,hm⟩:=YY k hk;have h0:at8 (a::(m++[z])) 0=a:=by simp[at8]
 have h31:at8 (a::(m++[z])) 31=z:=by simp[at8,hm]
 have e:At (a::(m++[z]))=UInt8.ofNat (a.toNat/8*8)::(m++[UInt8.ofNat (z.toNat % 64+64)]):=by rw[At,h0,h31,List.set_cons_zero,List.set_cons_succ,List.set_append_right _ _ (by omega),hm];rfl
 have ha:=a.toNat_lt;have hz:=z.toNat_lt;have rP:=jD m;rw[hm] at rP;have ea:(UInt8.ofNat (a.toNat/8*8)).toNat=a.toNat/8*8:=by simp;omega
 have ez:(UInt8.ofNat (z.toNat % 64+64)).toNat=z.toNat % 64+64:=by simp;omega
 rw[e];simp only[fc,ji,ea,ez,hm,fC];generalize fc m=M at rP⊢
 generalize a.toNat=x at ha⊢
 generalize z.toNat=y at hz⊢
 simp only[show(256:Nat)^30=1766847064778384329583297500742918515827483896875618958121606201292619776 from rfl,show(2:Nat)^254=28948022309329048855892746252171976963317496166410141009864396001978282409984 from rfl] at rP⊢;omega
theorem Vi {U K b:Nat}{is:Bool}{x2 z2 x3 z3 a2 d2 a3 d3 f2 e2 f3 e3:Nat}(hL:I3 U (K,b+1) x2 z2 x3 z3)(hb:is=decide (K/2^b % 2=1))(h2:z2<bJ)(h3:z3<bJ)
  (Gn:(if is=true then x3 else x2)=a2) (ha3:(if is=true then x2 else x3)=a3) (xi:(if is=true then z3 else z2)=d2) (K7:(if is=true then z2 else z3)=d3)
  (Mb:(if is=true then G0 a2 d2 a3 d3 else JF a2 d2)=f2) (hf3:(if is=true then JF a2 d2 else G0 a2 d2 a3 d3)=f3) (E5:(if is=true then JH U a2 d2 a3 d3 else JG a2 d2)=e2) (he3:(if is=true then JG a2 d2 else JH U a2 d2 a3 d3)=e3):
  I3 U (K,b) f2 e2 f3 e3:=by
 cases is with
 |false=>
  have h:¬K/2^b % 2=1:=of_decide_eq_false hb.symm;simp only[Bool.false_eq_true,if_false] at Gn ha3 xi K7 Mb hf3 E5 he3;subst Gn ha3 xi K7 Mb hf3 E5 he3;exact hL.zero (by omega)
 |true=>
  simp only[if_true] at Gn ha3 xi K7 Mb hf3 E5 he3;subst Gn ha3 xi K7 Mb hf3 E5 he3;exact hL.one (dL hb.symm)
def bF:bK:=(cz 32 (0:UInt8)).map bv
theorem NY (k:aO)(w:aw)(hk:k.length=32):
  Calls prog 43 #[.agg (k.map bv).toArray] w λe w'=>e= .returned (.agg ((At k).map bv).toArray)∧Below w.heap.size w w':=by
 have hI:ae (∀l:aO,l.length=32→(prog.info? 24).map (·.size)=some (l.map bv).toArray.size):=λl hl=>cW (n:=32) (by kernel_rfl) l hl;have gC:ae (Vw w ((w.alloc (.cells (k.map bv).toArray 24)).alloc (.cells bF.toArray 24)) [(w.heap.size,24,k.map bv),(w.heap.size+1,24,bF)]):=by have h:=((Vw.none w).alloc 24 (k.map bv)).alloc 24 bF;simp only[fx] at h;exact h
 obtain⟨k0,hk0⟩:=aW ((at8 k 0).toNat);obtain⟨k31,YZ⟩:=aW ((at8 k 31).toNat);have amC:k0<256:=by rw[←hk0];exact(at8 k 0).toNat_lt
 have aaL:k31<256:=by rw[←YZ];exact(at8 k 31).toNat_lt
 obtain⟨m0,Hw⟩:=aW (k0/8*8);obtain⟨t31,aid⟩:=aW (k31 % 128);obtain⟨m31,adk⟩:=aW (k31 % 64+64);have E0:bits .and .u8 (k0:Int) 248=(m0:Int):=by rw[←Hw];exact adh ⟨k0,amC⟩
 have amD:bits .and .u8 (k31:Int) 127=(t31:Int):=by rw[←aid];exact adi ⟨k31,aaL⟩
 have atI:bits .or .u8 (t31:Int) 64=(m31:Int):=by rw[←amD,←adk];exact aib ⟨k31,aaL⟩
 obtain⟨kk,Y0⟩:=aW (At k);have AB:kk.length=32:=by rw[←Y0,BD,hk]
 have I7:kk.map bv=((k.map bv).set 0 (.int .u8 (m0:Int))).set 31 (.int .u8 (m31:Int)):=by
  have h1:bv (UInt8.ofNat ((at8 k 0).toNat/8*8))= .int .u8 (m0:Int):=by rw[bv,BC _ (by omega),hk0,Hw]
  have h2:bv (UInt8.ofNat ((at8 k 31).toNat % 64+64))= .int .u8 (m31:Int):=by rw[bv,BC _ (by omega),YZ,adk]
  rw[←Y0,At,List.map_set,List.map_set,h1,h2]
 rw[Y0];clear Y0 Hw aid adk
 go_enter func43,ntmps43
 refine wp_seq (wp_cut (λa W=>a={tmps:=#[.agg (k.map bv).toArray,.pointer (some ⟨w.heap.size,0,none⟩),.pointer (some ⟨w.heap.size+1,0,none⟩),ag,ag,ag,ag,ag,ag,ag,ag,ag,ag,ag,ag,ag],defers:=[]}∧ae (Vw w W [(w.heap.size,24,k.map bv),(w.heap.size+1,24,bF)])) ?_ ?_)
 ·go_wp2
  first|exact gC|exact⟨rfl,gC⟩|exact⟨rfl,rfl,gC⟩
 ·rintro a W0 ⟨rfl,JZ⟩;clear gC;simp only[Exit.then];have hA:dz W0 (w.heap.size) 24 k:=JZ.o.cell (w.heap.size,24,k.map bv) (by simp);obtain⟨c0,f0⟩:=hA.at_ 0 (by omega);rw[hk0] at c0;have sU:=JZ.o.setCell 0 (w.heap.size) 24 (k.map bv) 0 (.int .u8 (m0:Int)) rfl;have c31:(W0.setCell ⟨w.heap.size,0,none⟩ (.int .u8 (m0:Int))).cell? ⟨w.heap.size,31,none⟩=some (.int .u8 (k31:Int)):=by have:=sU.cell (w.heap.size,24,(k.map bv).set 0 (.int .u8 (m0:Int))) (by simp);rw[cell_of_row _ _ 31 _ _ (0,0) this];simp only[List.getElem?_toArray,List.getElem?_set_ne (show(0:Nat)≠31 by decide)];rw[←YZ,cP k 31 (by omega)];simp[bv,hk]
  have f31:(W0.setCell ⟨w.heap.size,0,none⟩ (.int .u8 (m0:Int))).frozen? ⟨w.heap.size,31,none⟩=false:=frozen_of_row _ _ 31 _ _ (sU.cell (w.heap.size,24,(k.map bv).set 0 (.int .u8 (m0:Int))) (by simp));have hV3:=sU.setCell 0 (w.heap.size) 24 ((k.map bv).set 0 (.int .u8 (m0:Int))) 31 (.int .u8 (m31:Int)) rfl;have Jj:ae (Vw w ((W0.setCell ⟨w.heap.size,0,none⟩ (.int .u8 (m0:Int))).setCell ⟨w.heap.size,31,none⟩ (.int .u8 (m31:Int))) [(w.heap.size,24,kk.map bv),(w.heap.size+1,24,bF)]):=by rw[I7];exact hV3
  have hR:=Jj.o.cell (w.heap.size+1,24,bF) (by simp);have xA:=aL _ (w.heap.size+1) _ _ (kk.map bv) hR (by simp[AB,bF]) (bd kk);have HX:=f9 (Jj.o.put 1 (w.heap.size+1) 24 bF (kk.map bv) rfl);clear hA sU hV3 JZ I7 hk0 YZ hR
  go_wp2_with (first|(refine wpList_load_row rfl 24 _ rfl (w.heap.size) rfl 24 (kk.map bv).toArray (0,0) _ ?_ underlying24 rfl (hI.out kk AB) ?_;exact Jj.o.cell (w.heap.size,24,kk.map bv) (by simp))|fail)
  (try simp only[nu,Exit.then])
  refine bodyPost_ret (results_cell_row rfl _ _ (w.heap.size+1) 24 _ (0,0) _ rfl (HX.o.cell (w.heap.size+1,24,kk.map bv) (by simp)) underlying24 rfl (hI.out kk AB)) rfl ?_;exact⟨rfl,HX.o.aY⟩
theorem Gy (is:Bool)(A B:bK)(x1 z1 x2 z2:Nat)(w:aw)(hA:vS A x1 z1)(hB:vS B x2 z2):
  Calls prog 46 #[.bool is,.agg A.toArray,.agg B.toArray] w λe w'=>∃C D,e= .returned (.tuple #[.agg C.toArray,.agg D.toArray])∧vS C (if is=true then x2 else x1) (if is=true then z2 else z1)∧vS D (if is=true then x1 else x2) (if is=true then z1 else z2)∧Below w.heap.size w w':=by
 obtain⟨mx1,adl⟩:∃n,(if is=true then x2 else x1)=n:=⟨_,rfl⟩;obtain⟨mz1,adm⟩:∃n,(if is=true then z2 else z1)=n:=⟨_,rfl⟩;obtain⟨mx2,adn⟩:∃n,(if is=true then x1 else x2)=n:=⟨_,rfl⟩;obtain⟨mz2,ado⟩:∃n,(if is=true then z1 else z2)=n:=⟨_,rfl⟩;rw[adl,adm,adn,ado];have Bl:=f9 adl;have Ud:=f9 adm;have xT:=f9 adn;have WO:=f9 ado;clear adl adm adn ado;obtain⟨a1,a2,eA,JE,Gn⟩:=hA;obtain⟨b1,b2,eB,ck,cM⟩:=hB;have EA:=f9 eA;have EB:=f9 eB;have jC:=f9 JE;have gM:=f9 Gn;have iG:=f9 ck;have sO:=f9 cM;clear eA eB JE Gn ck cM;have gC:ae (Vw w ((((w.alloc (.cells A.toArray 87)).alloc (.cells B.toArray 87)).alloc (.cells cy.toArray 87)).alloc (.cells cy.toArray 87)) [(w.heap.size,87,A),(w.heap.size+1,87,B),(w.heap.size+1+1,87,cy),(w.heap.size+1+1+1,87,cy)]):=by have h:=((((Vw.none w).alloc 87 A).alloc 87 B).alloc 87 cy).alloc 87 cy;simp only[fx] at h;exact h
 go_enter func46,ntmps46
 refine wp_seq (wp_cut (λa W=>a={tmps:=#[.bool is,.agg A.toArray,.agg B.toArray,ag,.pointer (some ⟨w.heap.size,0,none⟩),.pointer (some ⟨w.heap.size+1,0,none⟩),.pointer (some ⟨w.heap.size+1+1,0,none⟩),.pointer (some ⟨w.heap.size+1+1+1,0,none⟩),ag,ag,ag,ag,ag,ag,ag,ag,ag,ag,ag,ag,ag,ag,ag,ag,ag,ag,ag,ag,ag,ag,ag,ag],defers:=[]}∧ae (Vw w W [(w.heap.size,87,A),(w.heap.size+1,87,B),(w.heap.size+1+1,87,cy),(w.heap.size+1+1+1,87,cy)])) ?_ ?_)
 ·go_wp2
  first|exact gC|exact⟨rfl,gC⟩|exact⟨rfl,rfl,gC⟩
 ·rintro a W0 ⟨rfl,HV⟩;clear gC;simp only[Exit.then]
  go_wp2_with (first|(refine cD rfl 82 _ rfl (w.heap.size) 0 rfl a1 _ (Ei (HV.o.cell (w.heap.size,87,A) (by simp)) EA.out) underlying82 rfl (tG jC.o) ?_)|(refine cD rfl 82 _ rfl (w.heap.size+1) 0 rfl b1 _ (Ei (HV.o.cell (w.heap.size+1,87,B) (by simp)) EB.out) underlying82 rfl (tG iG.o) ?_)|fail)
  refine(Gx is a1 b1 x1 x2 W0 jC.o iG.o).mono ?_;rintro e V1 ⟨c1,d1,rfl,hc,hd,hb⟩;rw[Bl.o] at hc;rw[xT.o] at hd;have B5:=f9 hc;have ru:=f9 hd;have ig:=hc.len;have hld:=hd.len;have hV:=HV.o.later hb;have gN:=Pz V1 (w.heap.size) A a1 a2 c1 (hV.cell (w.heap.size,87,A) (by simp)) EA.out jC.o hc;have oe:=hV.put 0 (w.heap.size) 87 A (c1++a2) rfl;obtain⟨A',hA'⟩:∃X,c1++a2=X:=⟨_,rfl⟩;obtain⟨Y1,hY1⟩:∃X,V1.setRow (w.heap.size) (c1++a2).toArray=X:=⟨_,rfl⟩;rw[hY1] at gN oe;rw[hA'] at oe;have eO:=Pz Y1 (w.heap.size+1) B b1 b2 d1 (oe.cell (w.heap.size+1,87,B) (by simp)) EB.out iG.o hd;have sU:=oe.put 1 (w.heap.size+1) 87 B (d1++b2) rfl;obtain⟨B',Xh⟩:∃X,d1++b2=X:=⟨_,rfl⟩;obtain⟨Y2,hY2⟩:∃X,Y1.setRow (w.heap.size+1) (d1++b2).toArray=X:=⟨_,rfl⟩;rw[hY2] at eO sU;rw[Xh] at sU;have EA':=f9 hA'.symm;have EB':=f9 Xh.symm;replace HV:ae (Vw w Y2 [(w.heap.size,87,A'),(w.heap.size+1,87,B'),(w.heap.size+1+1,87,cy),(w.heap.size+1+1+1,87,cy)]):=sU;clear hc hd hb hV oe sU hA' Xh hY1 hY2
  go_wp2_with (first|(refine cD rfl 82 _ rfl (w.heap.size) 5 rfl a2 _ (Ej (HV.o.cell (w.heap.size,87,A') (by simp)) EA'.out B5.o) underlying82 rfl (tG gM.o) ?_)|(refine cD rfl 82 _ rfl (w.heap.size+1) 5 rfl b2 _ (Ej (HV.o.cell (w.heap.size+1,87,B') (by simp)) EB'.out ru.o) underlying82 rfl (tG sO.o) ?_)|fail)
  clear gN eO;refine(Gx is a2 b2 z1 z2 Y2 gM.o sO.o).mono ?_;rintro e V2 ⟨c2,d2,rfl,hc,hd,hb⟩;rw[Ud.o] at hc;rw[WO.o] at hd;have vR:=f9 hc;have Pr:=f9 hd;have atN:=hc.len;have om:=hd.len;have hV:=HV.o.later hb;have gN:=PA V2 (w.heap.size) A' c1 a2 c2 (hV.cell (w.heap.size,87,A') (by simp)) EA'.out B5.o gM.o hc;have oe:=hV.put 0 (w.heap.size) 87 A' (c1++c2) rfl;obtain⟨C,hC⟩:∃X,c1++c2=X:=⟨_,rfl⟩;obtain⟨Y3,hY3⟩:∃X,V2.setRow (w.heap.size) (c1++c2).toArray=X:=⟨_,rfl⟩;rw[hY3] at gN oe;rw[hC] at oe;have eO:=PA Y3 (w.heap.size+1) B' d1 b2 d2 (oe.cell (w.heap.size+1,87,B') (by simp)) EB'.out ru.o sO.o hd;have sU:=oe.put 1 (w.heap.size+1) 87 B' (d1++d2) rfl;obtain⟨D,hD⟩:∃X,d1++d2=X:=⟨_,rfl⟩;obtain⟨Y4,hY4⟩:∃X,Y3.setRow (w.heap.size+1) (d1++d2).toArray=X:=⟨_,rfl⟩;rw[hY4] at eO sU;rw[hD] at sU;have HPC:ae (vS C mx1 mz1):=⟨c1,c2,hC.symm,B5.o,vR.o⟩;have HPD:ae (vS D mx2 mz2):=⟨d1,d2,hD.symm,ru.o,Pr.o⟩;replace HV:ae (Vw w Y4 [(w.heap.size,87,C),(w.heap.size+1,87,D),(w.heap.size+1+1,87,cy),(w.heap.size+1+1+1,87,cy)]):=sU;clear hc hd hb hV oe sU hC hD hY3 hY4
  go_wp2
  clear gN eO;have Rv:=HV.o.drew;obtain⟨Wd,kY⟩:∃W,Y4.drew=W:=⟨_,rfl⟩;rw[kY] at Rv;have ij:ae (Y4.drew=Wd):=kY;have CP:ae (Wd.heap[w.heap.size]?=some (.cells C.toArray 87 (0,0))):=Rv.cell (w.heap.size,87,C) (by simp);have CQ:ae (Wd.heap[w.heap.size+1]?=some (.cells D.toArray 87 (0,0))):=Rv.cell (w.heap.size+1,87,D) (by simp);have Xj:=HPC.o.qe.len;have Wq:=HPD.o.qe.len;have gN:=aL Wd (w.heap.size+1+1) _ _ C (Rv.cell (w.heap.size+1+1,87,cy) (by simp)) (by rw[HPC.o.qe.len];rfl) HPC.o.qe.one;have oe:=Rv.put 2 (w.heap.size+1+1) 87 cy C rfl;obtain⟨X1,jN⟩:∃X,Wd.setRow (w.heap.size+1+1) C.toArray=X:=⟨_,rfl⟩;rw[jN] at gN oe;have eO:=aL X1 (w.heap.size+1+1+1) _ _ D (oe.cell (w.heap.size+1+1+1,87,cy) (by simp)) (by rw[HPD.o.qe.len];rfl) HPD.o.qe.one;have sU:=oe.put 3 (w.heap.size+1+1+1) 87 cy D rfl;obtain⟨X2,lf⟩:∃X,X1.setRow (w.heap.size+1+1+1) D.toArray=X:=⟨_,rfl⟩;rw[lf] at eO sU;have G1:ae (X1.heap[w.heap.size]?=Wd.heap[w.heap.size]?∧X1.heap[w.heap.size+1]?=Wd.heap[w.heap.size+1]?):=⟨by rw[oe.cell (w.heap.size,87,C) (by simp),CP.out],by rw[oe.cell (w.heap.size+1,87,D) (by simp),CQ.out]⟩;have G2:ae (X2.heap[w.heap.size]?=X1.heap[w.heap.size]?∧X2.heap[w.heap.size+1]?=X1.heap[w.heap.size+1]?):=⟨by rw[sU.cell (w.heap.size,87,C) (by simp),oe.cell (w.heap.size,87,C) (by simp)],by rw[sU.cell (w.heap.size+1,87,D) (by simp),oe.cell (w.heap.size+1,87,D) (by simp)]⟩;have R1:ae (X2.heap[w.heap.size+1+1]?=some (.cells C.toArray 87 (0,0))):=sU.cell (w.heap.size+1+1,87,C) (by simp);have R2:ae (X2.heap[w.heap.size+1+1+1]?=some (.cells D.toArray 87 (0,0))):=sU.cell (w.heap.size+1+1+1,87,D) (by simp);have bR:ae (Below w.heap.size w X2):=sU.aY;clear Rv oe sU jN lf kY HV;refine ah (G:=λX Y=>Y.heap[w.heap.size]?=X.heap[w.heap.size]?∧Y.heap[w.heap.size+1]?=X.heap[w.heap.size+1]?) (by kernel_rfl) (λ_=>⟨rfl,rfl⟩) (λ_ _ _ h k=>⟨k.1.trans h.1,k.2.trans h.2⟩) (by kernel_rfl) [(0,true),(1,true),(2,false),(3,false)] rfl (by kernel_rfl) ?_;intro KK cA;rw[ij.o];clear ij;refine aa rfl (by rfl) (v:=.agg C.toArray) (λw' hw'=>ar 87 _ rfl (w.heap.size) rfl 87 _ (0,0) _ (hw'.1.trans CP.out) underlying87 rfl (jQ HPC.o.qe)) ?_;go_simp
  refine aa rfl (by rfl) (v:=.agg D.toArray) (λw' hw'=>ar 87 _ rfl (w.heap.size+1) rfl 87 _ (0,0) _ (hw'.2.trans CQ.out) underlying87 rfl (jQ HPD.o.qe)) ?_;go_simp
  refine bu rfl (by rfl) (w':=X1) (by go_simp) G1.out ?_;go_simp
  refine bu rfl (by rfl) (w':=X2) (by go_simp) G2.out ?_;clear gN eO;go_simp
  refine az cA ?_;clear cA
  (try go_wp2)
  (try simp only[nu,Exit.then])
  refine bodyPost_ret (pU rfl _ _ (w.heap.size+1+1) (w.heap.size+1+1+1) 87 _ _ _ rfl rfl R1.out R2.out underlying87 rfl (jQ HPC.o.qe) (jQ HPD.o.qe)) rfl ?_;exact⟨C,D,rfl,HPC.o,HPD.o,bR.o⟩
theorem qO (x a b c:Nat)(h:a+b=c):pw x a*pw x b % bJ=pw x c:=by rw[U5,h]
theorem aan {ops:Array Oper}{i:Nat}{o:Oper}{p:Op}(ho:ops[i]?=some o)(h:(ops[i]?).map (λo=>(o.op,o.guard))=some (p,none)):o.op=p∧o.guard=none:=by rw[ho] at h;have h2:(o.op,o.guard)=(p,none):=Option.some.inj h;exact⟨congrArg Prod.fst h2,congrArg Prod.snd h2⟩
theorem aae {α:Type}{l:List α}{y:α}(k:Nat)(h:l[k]?=some y):y∈l:=List.mem_of_getElem? h
theorem aah {o:Oper}{ys:Nat→Option Bool}(h:o.guard=none):Region.wanted o ys=true:=by unfold Region.wanted;rw[h]
def aap (ops:Array Oper)(m t src by_:Nat):Bool:=
 (match ops[1]? with|some o=>(o.after.any λe=>Region.binds .any e&&e.on==0)|none=>false)&&
 (match ops[3]? with|some o=>(o.after.any λe=>Region.binds .any e&&e.on==1)&&(o.after.any λe=>Region.binds .any e&&e.on==2)|none=>false)&&
 je ops 0==some t&&je ops 1==some (t+1)&&je ops 2==some (t+2)&&je ops 3==some (t+3)&&decide (t+3<57)&&ah' ops m src&&ah' ops m by_&&ah' ops m 2
structure ad3 (ops:Array Oper)(src by_ t k:Nat):Prop where
 o0:(ops[0]?).map (λo=>(o.op,o.guard))=some (.load 82 (.tmp src),none)
 o1:(ops[1]?).map (λo=>(o.op,o.guard))=some (.call {callee:=.value (.func 74),args:=#[.tmp t,.const (.int .i64 (k:Int))],argTypes:=#[82,3]},none)
 o2:(ops[2]?).map (λo=>(o.op,o.guard))=some (.load 82 (.tmp by_),none)
 o3:(ops[3]?).map (λo=>(o.op,o.guard))=some (.call {callee:=.value (.func 48),args:=#[.tmp (t+1),.tmp (t+2)],argTypes:=#[82,82]},none)
def aaq (x ea e2:Nat)(c0 c1:bK)(j:Nat)(v:Value):Prop:=match j with
 |0=>v= .agg c0.toArray
 |1=>∃c:bK,v= .agg c.toArray∧cO c (pw x ea)
 |2=>v= .agg c1.toArray
 |3=>∃c:bK,v= .agg c.toArray∧cO c (pw x e2)
 |_=>True
structure IS (w:aw)(x r:Nat)(E:List (Nat×Nat))(a:Act)(W:aw):Prop where
 sz:a.tmps.size=57
 df:a.defers=[]
 res:a.tmps.getD 2 ag= .pointer (some ⟨r,0,none⟩)
 rc:wM W r dX
 aY:Below w.heap.size w W
 lo:w.heap.size≤r
 vars:∀p∈E,∃g c,a.tmps.getD p.1 ag= .pointer (some ⟨g,0,none⟩)∧wM W g c∧cO c (pw x p.2)
theorem aai (ops:Array Oper)(v:Nat→Value)(d:Nat→Bool)(a:Act):∀n,(eb ops v d n a).defers=a.defers
 |0=>rfl
 |n+1=>by
  have ih:=aai ops v d a n;unfold eb;split
  ·rw[←ih];cases je ops n<;>rfl
  ·exact ih
theorem aao {ops:Array Oper}{m:Nat}{d:Nat→Bool}{v:Nat→Value}{a AA:Act}{W:aw}{i:Nat}{o:Oper}{Q:Exit→Act→aw→Prop}{x k t src by_ e0 ea e1 e2 g0 g1:Nat}{c0 c1:bK}
  (O:ad3 ops src by_ t k) (B:aap ops m t src by_=true) (hm:4≤m) (jH:a.tmps.size=57) (hk:k<1000) (ha:e0*2^k=ea) (cM:ea+e1=e2)
  (s0:a.tmps.getD src ag= .pointer (some ⟨g0,0,none⟩)) (s1:a.tmps.getD by_ ag= .pointer (some ⟨g1,0,none⟩)) (q0:wM W g0 c0) (q1:wM W g1 c1) (E0:cO c0 (pw x e0)) (E1:cO c1 (pw x e1))
  (hi:i=0∨i=1∨i=2∨i=3) (ho:ops[i]?=some o) (hv:∀j,j<4→d j=true→aaq x ea e2 c0 c1 j (v j)) (aX:∀e∈o.after,Region.binds .any e=true→d e.on=true) (hA:B4 ops m v d a AA):
  Region.wanted o (yielded ops AA.tmps)=true∧o.wp prog AA W (λa' W'=>∃x',a'=AA.put o.dst x'∧aaq x ea e2 c0 c1 i x'∧Below W.heap.size W W') Q:=by
 unfold aap at B;simp only[Bool.and_eq_true] at B;obtain⟨⟨⟨⟨⟨⟨⟨⟨⟨b1,b3⟩,b4⟩,b5⟩,b6⟩,b7⟩,b8⟩,b9⟩,b10⟩,b11⟩:=B;have d0:je ops 0=some t:=by simpa using b4
 have d1:je ops 1=some (t+1):=by simpa using b5
 have d2:je ops 2=some (t+2):=by simpa using b6
 have t3:t+3<57:=dL b8;have z0:t<a.tmps.size:=by rw[jH];omega
 have z1:t+1<a.tmps.size:=by rw[jH];omega
 have z2:t+2<a.tmps.size:=by rw[jH];omega
 rcases hi with rfl|rfl|rfl|rfl
 ·obtain⟨p,g⟩:=aan ho O.o0;exact⟨aah g,av (ar 82 _ p g0 ((hA.slot src b9).trans s0) 82 _ (0,0) _ q0 underlying82 rfl (bz E0)) ⟨_,rfl,rfl,bZ _ _⟩⟩
 ·obtain⟨p,g⟩:=aan ho O.o1;rw[ho] at b1;have hd:=au aX 0 b1;have h0:AA.eval (.tmp t)= .agg c0.toArray:=(hA.new 0 t (tV (by decide) hm) hd d0 z0).trans (hv 0 (by decide) hd);refine⟨aah g,bf (bw (vy:=.int .i64 (k:Int)) p rfl h0 rfl (by go_simp)) ((fp k x e0 ea c0 W hk E0 ha).mono ?_)⟩;rintro r W' ⟨c,rfl,he,cU⟩;exact⟨_,rfl,_,rfl,⟨c,rfl,he⟩,cU⟩
 ·obtain⟨p,g⟩:=aan ho O.o2;exact⟨aah g,av (ar 82 _ p g1 ((hA.slot by_ b10).trans s1) 82 _ (0,0) _ q1 underlying82 rfl (bz E1)) ⟨_,rfl,rfl,bZ _ _⟩⟩
 ·obtain⟨p,g⟩:=aan ho O.o3;rw[ho] at b3;obtain⟨b31,b32⟩:=Bool.and_eq_true_iff.1 b3;have rb:=au aX 1 b31;have xi:=au aX 2 b32;obtain⟨ca,hc,hE⟩:∃c:bK,v 1= .agg c.toArray∧cO c (pw x ea):=hv 1 (by decide) rb;have h1:AA.eval (.tmp (t+1))= .agg ca.toArray:=(hA.new 1 (t+1) (tV (by decide) hm) rb d1 z1).trans hc;have h2:AA.eval (.tmp (t+2))= .agg c1.toArray:=(hA.new 2 (t+2) (tV (by decide) hm) xi d2 z2).trans (hv 2 (by decide) xi);refine⟨aah g,bf (bw p rfl h1 h2 (by go_simp)) ((ef ca c1 (pw x ea) (pw x e1) W hE E1).mono ?_)⟩;rintro r W' ⟨c,rfl,he,cU⟩;rw[qO x ea e1 e2 cM] at he;exact⟨_,rfl,_,rfl,⟨c,rfl,he⟩,cU⟩
theorem aaf {ops:Array Oper}{id:Nat}{Q:Exit→Act→aw→Prop}{a:Act}{w W0:aw}{x r:Nat}{E:List (Nat×Nat)}(src by_ t k s e0 ea e1 e2:Nat)(h:IS w x r E a W0)(O:ad3 ops src by_ t k)(B:aap ops 6 t src by_=true)
  (hP:aia ops 6 57 [4] (λ_=>5) (λ_=>3)=true) (hm:6≤ops.size) (qu:zH .any ops=true) (jS:uD ops 6=true) (rp:Br .any ops 6=true) (rk:ops.toList.drop 6=[]) (uN:je ops 4=some s) (ank:s<57) (hold:(E.all λp=>ah' ops 6 p.1)=true)
  (m0:(src,e0)∈E) (m1:(by_,e1)∈E) (hk:k<1000) (ha:e0*2^k=ea) (cM:ea+e1=e2) (hq:∀a' W',IS w x r ((s,e2)::E) a' W'→Q .normal a' W'):(Code.region id ops true).wp prog Q a W0:=by
 obtain⟨g0,c0,s0,q0,E0⟩:=h.vars _ m0;obtain⟨g1,c1,s1,q1,E1⟩:=h.vars _ m1;have hP':Plc ops 6 a.tmps.size [4] (λ_=>5) (λ_=>3):=by rw[h.sz];exact mo hP
 have hdr:Below W0.heap.size W0 W0.drew:=gl;refine cF 6 hm qu jS rp (by kernel_rfl) [4] (λ_=>5) (λ_=>3) hP' (aaq x ea e2 c0 c1) ?_ ?_ ?_
 ·intro p hp x' re;obtain⟨c,hc,hE⟩:∃c:bK,x'= .agg c.toArray∧cO c (pw x e2):=re;exact⟨c,_,hc,hE⟩
 ·intro d v W i o AA hi qL ot ho hv aX hA hb;have gw:i=0∨i=1∨i=2∨i=3:=by simp at qL ot;omega
  exact aao O B (by omega) h.sz hk ha cM s0 s1 ((q0.later hdr).later hb) ((q1.later hdr).later hb) E0 E1 gw ho (λj hj hd=>hv j (by simp;omega) (by simp;omega) hd (by omega)) aX hA
 ·intro v g W hs hp hd hb;obtain⟨cm,e3,vL⟩:∃c:bK,v 3= .agg c.toArray∧cO c (pw x e2):=hs 3 (by decide) (by decide) (by decide);obtain⟨e4,O',c,n,hc,hE,hC⟩:=hp 4 (by decide);obtain rfl:c=cm:=eX (hc.symm.trans e3);rw[rk];unfold aap at B;simp only[Bool.and_eq_true] at B;have b11:=B.2;have old:∀p,ah' ops 6 p=true→(eb ops v (λ_=>true) 6 a).tmps.getD p ag=a.tmps.getD p ag:=λp hp=>yr ops v (λ_=>true) a p 6 (λj hj e=>by unfold ah' at hp;rw[List.all_eq_true] at hp;have:=hp j (List.mem_range.2 hj);rw[e] at this;simp at this)
  refine hq _ _ ⟨by rw[wE];exact h.sz,(aai _ _ _ _ _).trans h.df,(old 2 b11).trans h.res,(h.rc.later hdr).later hb,(h.aY.trans (hdr.mono h.aY.size)).trans (hb.mono (kx h.aY.size hdr.size)),h.lo,λp hp=>?_⟩
  rcases mg.1 hp with rfl|hp
  ·exact⟨g 4,c,(DG jS v (λ_=>true) a s 4 rfl uN (by rw[h.sz];exact ank) 6 (di _) (by decide)).trans e4,hC,vL⟩
  ·obtain⟨g2,c2,k1,k2,k3⟩:=h.vars p hp;exact⟨g2,c2,(old p.1 (List.all_eq_true.1 hold p hp)).trans k1,(k2.later hdr).later hb,k3⟩
theorem aar {ops:Array Oper}{o4:Oper}{id:Nat}{Q:Exit→Act→aw→Prop}{a:Act}{w W0:aw}{x r:Nat}{E:List (Nat×Nat)}(src by_ t k e0 ea e1 e2:Nat)(h:IS w x r E a W0)(O:ad3 ops src by_ t k)(B:aap ops 4 t src by_=true)
  (hm:4≤ops.size) (qu:zH .any ops=true) (jS:uD ops 4=true) (rp:Br .any ops 4=true) (hd4:ops.toList.drop 4=[o4]) (hg:o4.guard=none) (ho4:o4.op= .store 82 (.tmp 2) (.tmp (t+3))) (alR:o4.dst=none)
  (m0:(src,e0)∈E) (m1:(by_,e1)∈E) (hk:k<1000) (ha:e0*2^k=ea) (cM:ea+e1=e2) (hq:∀a' W' c,a'.defers=[]→a'.tmps.getD 2 ag= .pointer (some ⟨r,0,none⟩)→wM W' r c→cO c (pw x e2)→Below w.heap.size w W'→Q .normal a' W'):(Code.region id ops true).wp prog Q a W0:=by
 obtain⟨g0,c0,s0,q0,E0⟩:=h.vars _ m0;obtain⟨g1,c1,s1,q1,E1⟩:=h.vars _ m1;have hdr:Below W0.heap.size W0 W0.drew:=gl;refine cF 4 hm qu jS rp (by kernel_rfl) [] (λ_=>0) (λ_=>0) BA (aaq x ea e2 c0 c1) ?_ ?_ ?_
 ·intro p hp;cases hp
 ·intro d v W i o AA hi qL ot ho hv aX hA hb;exact aao O B (by omega) h.sz hk ha cM s0 s1 ((q0.later hdr).later hb) ((q1.later hdr).later hb) E0 E1 (by omega) ho (λj hj hd=>hv j (by simp) (by simp) hd (by omega)) aX hA
 ·intro v g W hs hp hd hb;obtain⟨cm,e3,vL⟩:∃c:bK,v 3= .agg c.toArray∧cO c (pw x e2):=hs 3 (by decide) (by simp) (by simp);unfold aap at B;simp only[Bool.and_eq_true] at B;obtain⟨⟨⟨⟨⟨_,b7⟩,b8⟩,_⟩,_⟩,b11⟩:=B;have d3:je ops 3=some (t+3):=by simpa using b7
  have t3:t+3<57:=dL b8;have k2:(eb ops v (λ_=>true) 4 a).tmps.getD 2 ag= .pointer (some ⟨r,0,none⟩):=(yr ops v (λ_=>true) a 2 4 (λj hj e=>by unfold ah' at b11;rw[List.all_eq_true] at b11;have:=b11 j (List.mem_range.2 hj);rw[e] at this;simp at this)).trans h.res
  have k3:(eb ops v (λ_=>true) 4 a).tmps.getD (t+3) ag= .agg cm.toArray:=(DG jS v (λ_=>true) a (t+3) 3 rfl d3 (by rw[h.sz];exact t3) 4 (di _) (by decide)).trans e3;have hR:=(h.rc.later hdr).later hb;rw[hd4];refine aaj hg ho4 alR k2 k3 vL qd hR ?_;refine hq _ _ cm ((aai _ _ _ _ _).trans h.df) k2 (setRow_heap W r _ cm.toArray _ _ hR) vL (below_setRow ((h.aY.trans (hdr.mono h.aY.size)).trans (hb.mono (kx h.aY.size hdr.size))) h.lo _)
theorem Vj (A:bK)(x:Nat)(w:aw)(hA:cO A x):
  Calls prog 49 #[.agg A.toArray] w λe w'=>∃cs,e= .returned (.agg cs.toArray)∧cO cs (rj x)∧Below w.heap.size w w':=by
 rw[ac5 x _ U6];have yL:cO A (pw x 1):=by rw[ac4 x hA.lt];exact hA
 clear hA;have h1:=(wM.new w A).later ((bZ _ _).alloc (di _) (.cells dX.toArray 82));have h2:=wM.new (w.alloc (.cells A.toArray 82)) dX;rw[fx] at h2;have ik:Below w.heap.size w ((w.alloc (.cells A.toArray 82)).alloc (.cells dX.toArray 82)):=eF.alloc (by simp) _;have HS:ae (∀a:Act,a.tmps.size=57→a.defers=[]→a.tmps.getD 1 ag= .pointer (some ⟨w.heap.size,0,none⟩)→a.tmps.getD 2 ag= .pointer (some ⟨w.heap.size+1,0,none⟩)→IS w x (w.heap.size+1) [(1,1)] a ((w.alloc (.cells A.toArray 82)).alloc (.cells dX.toArray 82))):=λa k1 k0 k2 k3=>
  ⟨k1,k0,k3,h2,ik,by omega,λp hp=>by rw[List.mem_singleton.1 hp];exact⟨_,A,k2,h1,yL⟩⟩
 clear h1 h2 ik yL
 go_enter func49,ntmps49
 go_wp2
 refine aaf 1 1 13 3 3 _ _ _ 9 (HS.o _ rfl rfl rfl rfl) ⟨rfl,rfl,rfl,rfl⟩ (by kernel_rfl) (by kernel_rfl) (di _) (by kernel_rfl) (by kernel_rfl) (by kernel_rfl) rfl (by kernel_rfl) (by decide) (by kernel_rfl) (aae 0 rfl) (aae 0 rfl) (by decide) rfl rfl ?_;clear HS;intro a W h
 go_wp2
 refine aaf 1 3 17 1 4 _ _ _ 11 h ⟨rfl,rfl,rfl,rfl⟩ (by kernel_rfl) (by kernel_rfl) (di _) (by kernel_rfl) (by kernel_rfl) (by kernel_rfl) rfl (by kernel_rfl) (by decide) (by kernel_rfl) (aae 1 rfl) (aae 0 rfl) (by decide) rfl rfl ?_;clear h;intro a W h
 go_wp2
 refine aaf 4 3 21 1 5 _ _ _ 31 h ⟨rfl,rfl,rfl,rfl⟩ (by kernel_rfl) (by kernel_rfl) (di _) (by kernel_rfl) (by kernel_rfl) (by kernel_rfl) rfl (by kernel_rfl) (by decide) (by kernel_rfl) (aae 0 rfl) (aae 1 rfl) (by decide) rfl rfl ?_;clear h;intro a W h
 go_wp2
 refine aaf 5 5 25 5 6 _ _ _ 1023 h ⟨rfl,rfl,rfl,rfl⟩ (by kernel_rfl) (by kernel_rfl) (di _) (by kernel_rfl) (by kernel_rfl) (by kernel_rfl) rfl (by kernel_rfl) (by decide) (by kernel_rfl) (aae 0 rfl) (aae 0 rfl) (by decide) rfl rfl ?_;clear h;intro a W h
 go_wp2
 refine aaf 6 6 29 10 7 _ _ _ 1048575 h ⟨rfl,rfl,rfl,rfl⟩ (by kernel_rfl) (by kernel_rfl) (di _) (by kernel_rfl) (by kernel_rfl) (by kernel_rfl) rfl (by kernel_rfl) (by decide) (by kernel_rfl) (aae 0 rfl) (aae 0 rfl) (by decide) rfl rfl ?_;clear h;intro a W h
 go_wp2
 refine aaf 7 7 33 20 8 _ _ _ 1099511627775 h ⟨rfl,rfl,rfl,rfl⟩ (by kernel_rfl) (by kernel_rfl) (di _) (by kernel_rfl) (by kernel_rfl) (by kernel_rfl) rfl (by kernel_rfl) (by decide) (by kernel_rfl) (aae 0 rfl) (aae 0 rfl) (by decide) rfl rfl ?_;clear h;intro a W h
 go_wp2
 refine aaf 8 6 37 10 9 _ _ _ 1125899906842623 h ⟨rfl,rfl,rfl,rfl⟩ (by kernel_rfl) (by kernel_rfl) (di _) (by kernel_rfl) (by kernel_rfl) (by kernel_rfl) rfl (by kernel_rfl) (by decide) (by kernel_rfl) (aae 0 rfl) (aae 2 rfl) (by decide) rfl rfl ?_;clear h;intro a W h
 go_wp2
 refine aaf 9 9 41 50 10 _ _ _ 1267650600228229401496703205375 h ⟨rfl,rfl,rfl,rfl⟩ (by kernel_rfl) (by kernel_rfl) (di _) (by kernel_rfl) (by kernel_rfl) (by kernel_rfl) rfl (by kernel_rfl) (by decide) (by kernel_rfl) (aae 0 rfl) (aae 0 rfl) (by decide) rfl rfl ?_;clear h;intro a W h
 go_wp2
 refine aaf 10 10 45 100 11 _ _ _ 1606938044258990275541962092341162602522202993782792835301375 h ⟨rfl,rfl,rfl,rfl⟩ (by kernel_rfl) (by kernel_rfl) (di _) (by kernel_rfl) (by kernel_rfl) (by kernel_rfl) rfl (by kernel_rfl) (by decide) (by kernel_rfl) (aae 0 rfl) (aae 0 rfl) (by decide) rfl rfl ?_;clear h;intro a W h
 go_wp2
 refine aaf 11 9 49 50 12 _ _ _ 1809251394333065553493296640760748560207343510400633813116524750123642650623 h ⟨rfl,rfl,rfl,rfl⟩ (by kernel_rfl) (by kernel_rfl) (di _) (by kernel_rfl) (by kernel_rfl) (by kernel_rfl) rfl (by kernel_rfl) (by decide) (by kernel_rfl) (aae 0 rfl) (aae 2 rfl) (by decide) rfl rfl ?_;clear h;intro a W h
 go_wp2
 refine aar 12 4 53 5 _ _ _ 57896044618658097711785492504343953926634992332820282019728792003956564819947 h ⟨rfl,rfl,rfl,rfl⟩ (by kernel_rfl) (by decide) (by kernel_rfl) (by kernel_rfl) (by kernel_rfl) rfl rfl rfl rfl (aae 0 rfl) (aae 8 rfl) (by decide) rfl rfl ?_;clear h;intro a W c k0 k1 k2 k3 k4
 (try simp only[Exit.then])
 go_wp2
 (try simp only[nu,Exit.then])
 refine bodyPost_ret (results_cell_row rfl _ _ (w.heap.size+1) 82 _ (0,0) _ k1 k2 underlying82 rfl (bz k3)) k0 ?_;exact⟨c,rfl,k3,k4⟩
def SpE (bk:Nat→Nat)(S:List (Nat×Nat×Nat))(j:Nat)(v:Value):Prop:=match S.getD j (0,0,0) with
 |(1,n,_)=>∃c:bK,v= .agg c.toArray∧cO c n
 |(2,x,z)=>∃c:bK,v= .agg c.toArray∧vS c x z
 |(3,p,z)=>v= .pointer (some ⟨bk p,5*z,none⟩)
 |_=>True
structure ES (w:aw)(nt r0 r1:Nat)(bk:Nat→Nat)(EE:List (Nat×Nat))(EP:List (Nat×Nat×Nat))(a:Act)(W:aw):Prop where
 sz:a.tmps.size=nt
 df:a.defers=[]
 aY:Below w.heap.size w W
 ee:∀e∈EE,a.tmps.getD e.1 ag= .pointer (some ⟨bk e.1,0,none⟩)∧∃c,wM W (bk e.1) c∧cO c e.2
 ep:∀e∈EP,a.tmps.getD e.1 ag= .pointer (some ⟨bk e.1,0,none⟩)∧(bk e.1≠r0∧bk e.1≠r1)∧∃c,wN W (bk e.1) c∧vS c e.2.1 e.2.2
 s6:a.tmps.getD 6 ag= .pointer (some ⟨r0,0,none⟩)
 s7:a.tmps.getD 7 ag= .pointer (some ⟨r1,0,none⟩)
 c6:wN W r0 cy
 c7:wN W r1 cy
 rn:r0≠r1∧w.heap.size≤r0∧w.heap.size≤r1
 tab:tE w
def okB (dY:List Nat)(so:Nat→Nat)(j:Nat):Bool:=!dY.contains j&& !(dY.map so).contains j
theorem aas {dY:List Nat}{so:Nat→Nat}{j:Nat}(h:okB dY so j=true):j∉dY∧j∉dY.map so:=by unfold okB at h;obtain⟨h1,h2⟩:=Bool.and_eq_true_iff.1 h;exact⟨by simpa using h1,by simpa using h2⟩
structure CX (ops:Array Oper)(m nt:Nat)(dY:List Nat)(so:Nat→Nat)(bk:Nat→Nat)(S:List (Nat×Nat×Nat))(EE:List (Nat×Nat))(EP:List (Nat×Nat×Nat))(w:aw)(d:Nat→Bool)(v:Nat→Value)(a AA:Act)(W:aw)(i:Nat)(o:Oper):Prop where
 hA:B4 ops m v d a AA
 sz:a.tmps.size=nt
 ho:ops[i]?=some o
 hv:∀j,j∉dY→j∉dY.map so→d j=true→j<m→SpE bk S j (v j)
 hd:∀e∈o.after,Region.binds .any e=true→d e.on=true
 ee:∀e∈EE,a.tmps.getD e.1 ag= .pointer (some ⟨bk e.1,0,none⟩)∧∃c,wM W (bk e.1) c∧cO c e.2
 ep:∀e∈EP,a.tmps.getD e.1 ag= .pointer (some ⟨bk e.1,0,none⟩)∧∃c,wN W (bk e.1) c∧vS c e.2.1 e.2.2
 tab:tE W
def VG (ops:Array Oper)(Q:Exit→Act→aw→Prop)(bk:Nat→Nat)(S:List (Nat×Nat×Nat))(AA:Act)(W:aw)(i:Nat)(o:Oper):Prop:=
 Region.wanted o (yielded ops AA.tmps)=true∧o.wp prog AA W (λa' W'=>∃x,a'=AA.put o.dst x∧SpE bk S i x∧Below W.heap.size W W') Q
abbrev Kds (ops:Array Oper)(Q:Exit→Act→aw→Prop)(m nt:Nat)(dY:List Nat)(so:Nat→Nat)(bk:Nat→Nat)(S:List (Nat×Nat×Nat))(EE:List (Nat×Nat))(EP:List (Nat×Nat×Nat))(w:aw):List Nat→Prop
 |[]=>True
 |i::l=>(∀d v a AA W o,CX ops m nt dY so bk S EE EP w d v a AA W i o→VG ops Q bk S AA W i o)∧Kds ops Q m nt dY so bk S EE EP w l
section
variable {ops:Array Oper} {Q:Exit→Act→aw→Prop} {m nt:Nat} {dY:List Nat} {so:Nat→Nat} {bk:Nat→Nat} {S:List (Nat×Nat×Nat)} {EE:List (Nat×Nat)} {EP:List (Nat×Nat×Nat)} {w W:aw} {d:Nat→Bool} {v:Nat→Value} {a AA:Act} {i:Nat} {o:Oper}
theorem Kds.at_:∀{l:List Nat},Kds ops Q m nt dY so bk S EE EP w l→∀i∈l,∀d v a AA W o,CX ops m nt dY so bk S EE EP w d v a AA W i o→VG ops Q bk S AA W i o
 |j::l,h,i,hi=>by
  rcases mg.1 hi with rfl|hi
  ·exact h.1
  ·exact h.2.at_ i hi
def aax (ops:Array Oper)(m nt:Nat)(dY:List Nat)(so:Nat→Nat)(i j t:Nat):Bool:=
 okB dY so j&&decide (j<m)&&(match ops[i]? with|some o=>o.after.any λe=>Region.binds .any e&&e.on==j|none=>false)&&je ops j==some t&&decide (t<nt)
theorem CX.arg (C:CX ops m nt dY so bk S EE EP w d v a AA W i o)(j t:Nat)(h:aax ops m nt dY so i j t=true):AA.eval (.tmp t)=v j∧SpE bk S j (v j):=by unfold aax at h;rw[C.ho] at h;simp only[Bool.and_eq_true] at h;obtain⟨⟨⟨⟨h1,h2⟩,h3⟩,h4⟩,h5⟩:=h;have hd:=au C.hd j h3;have hj:j<m:=dL h2;exact⟨C.hA.new j t hj hd (by simpa using h4) (by rw[C.sz];exact dL h5),C.hv j (aas h1).1 (aas h1).2 hd hj⟩
theorem CX.el (C:CX ops m nt dY so bk S EE EP w d v a AA W i o){j t n k:Nat}(h:aax ops m nt dY so i j t=true)(hS:S.getD j (0,0,0)=(1,n,k)):∃c:bK,AA.eval (.tmp t)= .agg c.toArray∧cO c n:=by obtain⟨h1,h2⟩:=C.arg j t h;unfold SpE at h2;rw[hS] at h2;obtain⟨c,h3,h4⟩:=h2;exact⟨c,h1.trans h3,h4⟩
theorem kfa {p x z:Nat}(h:(ops[i]?).map (λo=>(o.op,o.guard))=some (.fieldAddr 87 (.tmp p) 0,none))(hm:(p,x,z)∈EP)(hold:ah' ops m p=true)(hS:S.getD i (0,0,0)=(3,p,0)):∀d v a AA W o,CX ops m nt dY so bk S EE EP w d v a AA W i o→VG ops Q bk S AA W i o:=λd v a AA W o C=>by obtain⟨p1,g⟩:=aan C.ho h;refine⟨aah g,av (zT p1 ((C.hA.slot p hold).trans (C.ep _ hm).1)) ⟨_,rfl,?_,bZ _ _⟩⟩;unfold SpE;rw[hS];exact rfl
theorem kfz {p x z:Nat}(h:(ops[i]?).map (λo=>(o.op,o.guard))=some (.fieldAddr 87 (.tmp p) 1,none))(hm:(p,x,z)∈EP)(hold:ah' ops m p=true)(hS:S.getD i (0,0,0)=(3,p,1)):∀d v a AA W o,CX ops m nt dY so bk S EE EP w d v a AA W i o→VG ops Q bk S AA W i o:=λd v a AA W o C=>by obtain⟨p1,g⟩:=aan C.ho h;refine⟨aah g,av (zU p1 ((C.hA.slot p hold).trans (C.ep _ hm).1)) ⟨_,rfl,?_,bZ _ _⟩⟩;unfold SpE;rw[hS];exact rfl
theorem kpx {j t p x z:Nat}(h:(ops[i]?).map (λo=>(o.op,o.guard))=some (.load 82 (.tmp t),none))(hb:aax ops m nt dY so i j t=true)(hj:S.getD j (0,0,0)=(3,p,0))(hm:(p,x,z)∈EP)(hS:S.getD i (0,0,0)=(1,x,0)):∀d v a AA W o,CX ops m nt dY so bk S EE EP w d v a AA W i o→VG ops Q bk S AA W i o:=λd v a AA W o C=>by obtain⟨p1,g⟩:=aan C.ho h;obtain⟨e1,e2⟩:=C.arg j t hb;unfold SpE at e2;rw[hj] at e2;obtain⟨_,c,hc,c1,c2,he,h1,h2⟩:=C.ep _ hm;refine⟨aah g,av (oV p1 (e1.trans e2) hc he h1) ⟨_,rfl,?_,bZ _ _⟩⟩;unfold SpE;rw[hS];exact⟨c1,rfl,h1⟩
theorem kpz {j t p x z:Nat}(h:(ops[i]?).map (λo=>(o.op,o.guard))=some (.load 82 (.tmp t),none))(hb:aax ops m nt dY so i j t=true)(hj:S.getD j (0,0,0)=(3,p,1))(hm:(p,x,z)∈EP)(hS:S.getD i (0,0,0)=(1,z,0)):∀d v a AA W o,CX ops m nt dY so bk S EE EP w d v a AA W i o→VG ops Q bk S AA W i o:=λd v a AA W o C=>by obtain⟨p1,g⟩:=aan C.ho h;obtain⟨e1,e2⟩:=C.arg j t hb;unfold SpE at e2;rw[hj] at e2;obtain⟨_,c,hc,c1,c2,he,h1,h2⟩:=C.ep _ hm;refine⟨aah g,av (oW p1 (e1.trans e2) hc he h1 h2) ⟨_,rfl,?_,bZ _ _⟩⟩;unfold SpE;rw[hS];exact⟨c2,rfl,h2⟩
theorem kld {p n:Nat}(h:(ops[i]?).map (λo=>(o.op,o.guard))=some (.load 82 (.tmp p),none))(hm:(p,n)∈EE)(hold:ah' ops m p=true)(hS:S.getD i (0,0,0)=(1,n,0)):∀d v a AA W o,CX ops m nt dY so bk S EE EP w d v a AA W i o→VG ops Q bk S AA W i o:=λd v a AA W o C=>by obtain⟨p1,g⟩:=aan C.ho h;obtain⟨s0,c,q0,E0⟩:=C.ee _ hm;refine⟨aah g,av (ar 82 _ p1 (bk p) ((C.hA.slot p hold).trans s0) 82 _ (0,0) _ q0 underlying82 rfl (bz E0)) ⟨_,rfl,?_,bZ _ _⟩⟩;unfold SpE;rw[hS];exact⟨c,rfl,E0⟩
theorem aa9 {j t k u n1 n2:Nat}(h:(ops[i]?).map (λo=>(o.op,o.guard))=some (.call {callee:=.value (.func 70),args:=#[.tmp t,.tmp u],argTypes:=#[82,82]},none))(b1:aax ops m nt dY so i j t=true)(b2:aax ops m nt dY so i k u=true)(h1:S.getD j (0,0,0)=(1,n1,0))(h2:S.getD k (0,0,0)=(1,n2,0))(hS:S.getD i (0,0,0)=(1,fA n1 n2,0)):∀d v a AA W o,CX ops m nt dY so bk S EE EP w d v a AA W i o→VG ops Q bk S AA W i o:=λd v a AA W o C=>by obtain⟨p1,g⟩:=aan C.ho h;obtain⟨c1,e1,E1⟩:=C.el b1 h1;obtain⟨c2,e2,E2⟩:=C.el b2 h2;refine⟨aah g,bf (bw p1 rfl e1 e2 (by go_simp)) ((zR c1 c2 n1 n2 W E1 E2).mono ?_)⟩;rintro r W' ⟨c,rfl,he,cU⟩;refine⟨_,rfl,_,rfl,?_,cU⟩;unfold SpE;rw[hS];exact⟨c,rfl,he⟩
theorem aeO {j t k u n1 n2:Nat}(h:(ops[i]?).map (λo=>(o.op,o.guard))=some (.call {callee:=.value (.func 71),args:=#[.tmp t,.tmp u],argTypes:=#[82,82]},none))(b1:aax ops m nt dY so i j t=true)(b2:aax ops m nt dY so i k u=true)(h1:S.getD j (0,0,0)=(1,n1,0))(h2:S.getD k (0,0,0)=(1,n2,0))(hS:S.getD i (0,0,0)=(1,fS n1 n2,0)):∀d v a AA W o,CX ops m nt dY so bk S EE EP w d v a AA W i o→VG ops Q bk S AA W i o:=λd v a AA W o C=>by obtain⟨p1,g⟩:=aan C.ho h;obtain⟨c1,e1,E1⟩:=C.el b1 h1;obtain⟨c2,e2,E2⟩:=C.el b2 h2;refine⟨aah g,bf (bw p1 rfl e1 e2 (by go_simp)) ((zS c1 c2 n1 n2 W E1 E2 C.tab).mono ?_)⟩;rintro r W' ⟨c,rfl,he,cU⟩;refine⟨_,rfl,_,rfl,?_,cU⟩;unfold SpE;rw[hS];exact⟨c,rfl,he⟩
theorem aaJ {j t k u n1 n2:Nat}(h:(ops[i]?).map (λo=>(o.op,o.guard))=some (.call {callee:=.value (.func 48),args:=#[.tmp t,.tmp u],argTypes:=#[82,82]},none))(b1:aax ops m nt dY so i j t=true)(b2:aax ops m nt dY so i k u=true)(h1:S.getD j (0,0,0)=(1,n1,0))(h2:S.getD k (0,0,0)=(1,n2,0))(hS:S.getD i (0,0,0)=(1,fM n1 n2,0)):∀d v a AA W o,CX ops m nt dY so bk S EE EP w d v a AA W i o→VG ops Q bk S AA W i o:=λd v a AA W o C=>by obtain⟨p1,g⟩:=aan C.ho h;obtain⟨c1,e1,E1⟩:=C.el b1 h1;obtain⟨c2,e2,E2⟩:=C.el b2 h2;refine⟨aah g,bf (bw p1 rfl e1 e2 (by go_simp)) ((ef c1 c2 n1 n2 W E1 E2).mono ?_)⟩;rintro r W' ⟨c,rfl,he,cU⟩;refine⟨_,rfl,_,rfl,?_,cU⟩;unfold SpE;rw[hS];exact⟨c,rfl,he⟩
theorem ksm {n:Nat}(h:(ops[i]?).map (λo=>(o.op,o.guard))=some (.call {callee:=.value (.func 45),args:=#[.const (.int .u32 (n:Int))],argTypes:=#[85]},none))(hn:n<4294967296)(hS:S.getD i (0,0,0)=(1,n,0)):∀d v a AA W o,CX ops m nt dY so bk S EE EP w d v a AA W i o→VG ops Q bk S AA W i o:=λd v a AA W o C=>by obtain⟨p1,g⟩:=aan C.ho h;refine⟨aah g,bf (oU (vx:=.int .u32 (n:Int)) p1 rfl rfl (by go_simp)) ((yC n W hn).mono ?_)⟩;rintro r W' ⟨c,rfl,he,cU⟩;refine⟨_,rfl,_,rfl,?_,cU⟩;unfold SpE;rw[hS];exact⟨c,rfl,he⟩
theorem kb2 {j t k u n1 n2:Nat}(h:(ops[i]?).map (λo=>(o.op,o.guard))=some (.build 87 #[(0,.tmp t),(1,.tmp u)],none))(b1:aax ops m nt dY so i j t=true)(b2:aax ops m nt dY so i k u=true)(h1:S.getD j (0,0,0)=(1,n1,0))(h2:S.getD k (0,0,0)=(1,n2,0))(hS:S.getD i (0,0,0)=(2,n1,n2)):∀d v a AA W o,CX ops m nt dY so bk S EE EP w d v a AA W i o→VG ops Q bk S AA W i o:=λd v a AA W o C=>by obtain⟨p1,g⟩:=aan C.ho h;obtain⟨c1,e1,E1⟩:=C.el b1 h1;obtain⟨c2,e2,E2⟩:=C.el b2 h2;refine⟨aah g,av (wO p1 e1 e2 E1 E2) ⟨_,rfl,?_,bZ _ _⟩⟩;unfold SpE;rw[hS];exact⟨_,rfl,_,_,rfl,E1,E2⟩
end
def bkN (ops:Array Oper)(dY:List Nat)(g bk:Nat→Nat)(q:Nat):Nat:=match dY.find? (λp=>je ops p==some q) with
 |some p=>g p
 |none=>bk q
theorem aay {ops:Array Oper}{m:Nat}{dY:List Nat}{g bk:Nat→Nat}{q:Nat}(hm:∀p∈dY,p<m)(h:ah' ops m q=true):bkN ops dY g bk q=bk q:=by
 unfold bkN;have:dY.find? (λp=>je ops p==some q)=none:=by rw[List.find?_eq_none];intro p hp e;unfold ah' at h;rw[List.all_eq_true] at h;have h2:=h p (List.mem_range.2 (hm p hp));simp only[beq_iff_eq] at e;rw[e] at h2;simp at h2
 rw[this]
theorem aaM {ops:Array Oper}{m:Nat}{dY:List Nat}{g bk:Nat→Nat}{q p:Nat}(jS:uD ops m=true)(hm:∀p∈dY,p<m)(hp:p∈dY)(h:je ops p=some q):bkN ops dY g bk q=g p:=by
 unfold bkN;cases hf:dY.find? (λp=>je ops p==some q) with
 |none=>
  rw[List.find?_eq_none] at hf;exact absurd (by rw[h];simp) (hf p hp)
 |some p'=>
  have h1:=List.find?_some hf;have h2:=List.mem_of_find?_eq_some hf;simp only[beq_iff_eq] at h1
  by_cases e:p'=p
  ·rw[e]
  ·rcases apart_spec jS (hm p' h2) (hm p hp) e with h3|h3
   ·rw[h1] at h3;cases h3
   ·exact absurd (h1.trans h.symm) h3
section
variable {ops:Array Oper} {id:Nat} {Q:Exit→Act→aw→Prop} {a:Act} {w W0:aw} {nt r0 r1:Nat} {bk:Nat→Nat} {EE:List (Nat×Nat)} {EP:List (Nat×Nat×Nat)}
theorem aau {m p:Nat}{v:Nat→Value}(hp:ah' ops m p=true):(eb ops v (λ_=>true) m a).tmps.getD p ag=a.tmps.getD p ag:=yr ops v (λ_=>true) a p m (λj hj e=>by unfold ah' at hp;rw[List.all_eq_true] at hp;have:=hp j (List.mem_range.2 hj);rw[e] at this;simp at this)
def aa' (ops:Array Oper)(m:Nat)(EE:List (Nat×Nat))(EP:List (Nat×Nat×Nat)):Bool:=
 zH .any ops&&uD ops m&&Br .any ops m&&(EE.all λe=>ah' ops m e.1)&&(EP.all λe=>ah' ops m e.1)&&ah' ops m 6&&ah' ops m 7
theorem ES.cx (h:ES w nt r0 r1 bk EE EP a W0){W:aw}(hb:Below W0.drew.heap.size W0.drew W):(∀e∈EE,a.tmps.getD e.1 ag= .pointer (some ⟨bk e.1,0,none⟩)∧∃c,wM W (bk e.1) c∧cO c e.2)∧(∀e∈EP,a.tmps.getD e.1 ag= .pointer (some ⟨bk e.1,0,none⟩)∧∃c,wN W (bk e.1) c∧vS c e.2.1 e.2.2)∧tE W∧Below W0.heap.size W0 W:=by
 have hdr:Below W0.heap.size W0 W0.drew:=gl;have cM:Below W0.heap.size W0 W:=hdr.trans (hb.mono hdr.size);refine⟨λe he=>?_,λe he=>?_,h.tab.later (h.aY.trans (cM.mono h.aY.size)),cM⟩
 ·obtain⟨k1,c,k2,k3⟩:=h.ee e he;exact⟨k1,c,k2.later cM,k3⟩
 ·obtain⟨k1,_,c,k2,k3⟩:=h.ep e he;exact⟨k1,c,k2.later cM,k3⟩
theorem aaA (m:Nat)(dY:List Nat)(so vq:Nat→Nat)(S:List (Nat×Nat×Nat))(h:ES w nt r0 r1 bk EE EP a W0)(hm:m=ops.size)(hP:aia ops m nt dY so vq=true)(hr:aa' ops m EE EP=true)(hS:(dY.all λp=>(S.getD (vq p) (0,0,0)).1==1&&okB dY so (vq p)&&decide (vq p<m)&&decide ((je ops p).getD 0<nt))=true)
  (vs:List Nat) (So:((List.range m).all λi=>dY.contains i||(dY.map so).contains i||vs.contains i)=true) (hk:Kds ops Q m nt dY so bk S EE EP w vs)
  (hq:∀bk' a' W',ES w nt r0 r1 bk' ((dY.map λp=>((je ops p).getD 0,(S.getD (vq p) (0,0,0)).2.1))++EE) EP a' W'→Q .normal a' W'):(Code.region id ops true).wp prog Q a W0:=by
 unfold aa' at hr;simp only[Bool.and_eq_true] at hr;obtain⟨⟨⟨⟨⟨⟨c1,c2⟩,c3⟩,c4⟩,c5⟩,c6⟩,c7⟩:=hr;rw[List.all_eq_true] at c4 c5 hS;have hSs:∀p∈dY,(S.getD (vq p) (0,0,0)).1=1∧(vq p∉dY∧vq p∉dY.map so)∧vq p<m∧(je ops p).getD 0<nt:=λp hp=>by have:=hS p hp;simp only[Bool.and_eq_true,beq_iff_eq] at this;exact⟨this.1.1.1,aas this.1.1.2,dL this.1.2,dL this.2⟩
 have hP':Plc ops m a.tmps.size dY so vq:=by rw[h.sz];exact mo hP
 have hmm:∀p∈dY,p<m:=λp hp=>(hP'.Ve p hp).1;have sp1:∀p∈dY,∀x,SpE bk S (vq p) x→∃c:bK,x= .agg c.toArray∧cO c (S.getD (vq p) (0,0,0)).2.1:=λp hp x hx=>by unfold SpE at hx;obtain⟨y1,y2,y3,hy⟩:∃y1 y2 y3,S.getD (vq p) (0,0,0)=(y1,y2,y3):=⟨_,_,_,rfl⟩;have:=(hSs p hp).1;rw[hy] at this hx⊢;obtain rfl:y1=1:=this;exact hx
 refine cF m (Nat.le_of_eq hm) c1 c2 c3 (by kernel_rfl) dY so vq hP' (SpE bk S) ?_ ?_ ?_
 ·intro p hp x hx;obtain⟨c,h1,h2⟩:=sp1 p hp x hx;exact⟨c,_,h1,h2⟩
 ·intro d v W i o AA hi qL ot ho hv aX hA hb;obtain⟨k1,k2,k3,_⟩:=h.cx hb;rw[List.all_eq_true] at So;have hin:i∈vs:=by
   have:=So i (List.mem_range.2 hi);simp only[Bool.or_eq_true,List.contains_iff_mem] at this
   rcases this with(e|e)|e
   ·exact absurd e qL
   ·exact absurd e ot
   ·exact e
  exact hk.at_ i hin d v a AA W o ⟨hA,h.sz,ho,hv,aX,k1,k2,k3⟩
 ·intro v g W hs hp hd hb;obtain⟨_,_,_,cM⟩:=h.cx hb;have hz:ops.toList.drop m=[]:=List.drop_eq_nil_of_le (by rw[hm];simp);rw[hz];have old:∀q,ah' ops m q=true→(eb ops v (λ_=>true) m a).tmps.getD q ag=a.tmps.getD q ag:=λq hq=>aau hq;refine hq (bkN ops dY g bk) _ _ ⟨by rw[wE];exact h.sz,(aai _ _ _ _ _).trans h.df,h.aY.trans (cM.mono h.aY.size),λe he=>?_,λe he=>?_,(old 6 c6).trans h.s6,(old 7 c7).trans h.s7,h.c6.later cM,h.c7.later cM,h.rn,h.tab⟩
  ·rcases List.mem_append.1 he with he|he
   ·obtain⟨p,hpa,rfl⟩:=List.mem_map.1 he;obtain⟨_,_,_,_,_,xs,_,ho,_,_,hx,_⟩:=hP'.st p hpa;obtain⟨e1,e2,c,n,e3,e4,e5⟩:=hp p hpa;obtain⟨cq,e6,e7⟩:=sp1 p hpa _ (hs (vq p) (hSs p hpa).2.2.1 (hSs p hpa).2.1.1 (hSs p hpa).2.1.2);obtain rfl:c=cq:=eX (e3.symm.trans e6);have ht:=(hSs p hpa).2.2.2;rw[hx] at ht⊢;refine⟨?_,c,?_,e7⟩
    ·show(eb ops v (λ_=>true) m a).tmps.getD xs ag= .pointer (some ⟨bkN ops dY g bk xs,0,none⟩);rw[aaM c2 hmm hpa hx];exact(DG c2 v (λ_=>true) a _ p rfl hx (by rw[h.sz];exact ht) m (di _) (hmm p hpa)).trans e1
    ·show wM W (bkN ops dY g bk xs) c;rw[aaM c2 hmm hpa hx];exact e5
   ·obtain⟨k1,c,k2,k3⟩:=h.ee e he;rw[aay hmm (c4 e he),old _ (c4 e he)];exact⟨k1,c,k2.later cM,k3⟩
  ·obtain⟨k1,k0,c,k2,k3⟩:=h.ep e he;rw[aay hmm (c5 e he),old _ (c5 e he)];exact⟨k1,k0,c,k2.later cM,k3⟩
theorem aaY (m p so1 vq1 sl:Nat)(S:List (Nat×Nat×Nat))(x z:Nat)(h:ES w nt r0 r1 bk EE EP a W0)(hm:m=ops.size)(hP:aaK ops m nt [p] (λ_=>so1) (λ_=>vq1)=true)(hr:aa' ops m EE EP=true)(hS:S.getD vq1 (0,0,0)=(2,x,z))(Yj:(okB [p] (λ_=>so1) vq1&&decide (vq1<m)&&decide (sl<nt)&&je ops p==some sl)=true)
  (vs:List Nat) (So:((List.range m).all λi=>[p].contains i||([p].map λ_=>so1).contains i||vs.contains i)=true) (hk:Kds ops Q m nt [p] (λ_=>so1) bk S EE EP w vs)
  (hq:∀bk' a' W',ES w nt r0 r1 bk' EE ((sl,x,z)::EP) a' W'→Q .normal a' W'):(Code.region id ops true).wp prog Q a W0:=by
 unfold aa' at hr;simp only[Bool.and_eq_true] at hr;obtain⟨⟨⟨⟨⟨⟨c1,c2⟩,c3⟩,c4⟩,c5⟩,c6⟩,c7⟩:=hr;rw[List.all_eq_true] at c4 c5;simp only[Bool.and_eq_true,beq_iff_eq] at Yj;obtain⟨⟨⟨q1,q2⟩,q3⟩,q4⟩:=Yj;have hP':Vg ops m a.tmps.size [p] (λ_=>so1) (λ_=>vq1):=by rw[h.sz];exact Ij hP
 have hpm:p<m:=(hP'.Ve p (by simp)).1;have hmm:∀q∈[p],q<m:=λq hq=>by rw[List.mem_singleton.1 hq];exact hpm
 have sp1:∀y,SpE bk S vq1 y→∃c:bK,y= .agg c.toArray∧vS c x z:=λy hy=>by unfold SpE at hy;rw[hS] at hy;exact hy
 refine ox m (Nat.le_of_eq hm) c1 c2 c3 (by kernel_rfl) [p] (λ_=>so1) (λ_=>vq1) hP' (SpE bk S) ?_ ?_ ?_
 ·intro _ _ y hy;obtain⟨c,h1,h2⟩:=sp1 y hy;exact⟨c,_,h1,h2.qe⟩
 ·intro d v W i o AA hi qL ot ho hv aX hA hb;obtain⟨k1,k2,k3,_⟩:=h.cx hb;rw[List.all_eq_true] at So;have hin:i∈vs:=by
   have:=So i (List.mem_range.2 hi);simp only[Bool.or_eq_true,List.contains_iff_mem] at this
   rcases this with(e|e)|e
   ·exact absurd e qL
   ·exact absurd e ot
   ·exact e
  exact hk.at_ i hin d v a AA W o ⟨hA,h.sz,ho,hv,aX,k1,k2,k3⟩
 ·intro v g W hs hp hd hb;obtain⟨_,_,_,cM⟩:=h.cx hb;have hz:ops.toList.drop m=[]:=List.drop_eq_nil_of_le (by rw[hm];simp);rw[hz];obtain⟨e1,e2,c,n,e3,e4,e5⟩:=hp p (by simp);obtain⟨cq,e6,e7⟩:=sp1 _ (hs vq1 (dL q2) (aas q1).1 (aas q1).2);obtain rfl:c=cq:=eX (e3.symm.trans e6);have n0:r0<W0.heap.size:=h.c6.lt;have n1:r1<W0.heap.size:=h.c7.lt;have Sl:W0.heap.size≤g p:=e2;refine hq (bkN ops [p] g bk) _ _ ⟨by rw[wE];exact h.sz,(aai _ _ _ _ _).trans h.df,h.aY.trans (cM.mono h.aY.size),λe he=>?_,λe he=>?_,(aau c6).trans h.s6,(aau c7).trans h.s7,h.c6.later cM,h.c7.later cM,h.rn,h.tab⟩
  ·obtain⟨k1,c',k2,k3⟩:=h.ee e he;rw[aay hmm (c4 e he),aau (c4 e he)];exact⟨k1,c',k2.later cM,k3⟩
  ·rcases mg.1 he with rfl|he
   ·dsimp only;rw[aaM c2 hmm (by simp) q4];exact⟨(DG c2 v (λ_=>true) a _ p rfl q4 (by rw[h.sz];exact dL q3) m (di _) hpm).trans e1,⟨by omega,by omega⟩,c,e5,e7⟩
   ·obtain⟨k1,k0,c',k2,k3⟩:=h.ep e he;rw[aay hmm (c5 e he),aau (c5 e he)];exact⟨k1,k0,c',k2.later cM,k3⟩
theorem ZA (a:Act)(p i:Nat)(v:Value)(h:i≠p):(a.put (some p) v).tmps.getD i ag=a.tmps.getD i ag:=fF a (some p) v i (λe=>h (by cases e;rfl))
theorem aak (a:Act)(p:Nat)(v:Value)(h:p<a.tmps.size):(a.put (some p) v).tmps.getD p ag=v:=by simp[Act.put,h]
theorem aba {o0 o1 o2 o3 o4:Oper}(t p q s x z:Nat)(h:ES w nt r0 r1 bk EE EP a W0)(ht:t+2<nt)(hs:s<nt)(mp:(p,x)∈EE)(mq:(q,z)∈EE)(Kl:(p==t||q==t||s==t||s==t+1||s==t+2||s==6||s==7||t==6||t==7||t+1==6||t+1==7||t+2==6||t+2==7)=false)(hE:(EE.all λe=> !(e.1==s||e.1==t||e.1==t+1||e.1==t+2))=true)(hEP:(EP.all λe=> !(e.1==s||e.1==t||e.1==t+1||e.1==t+2))=true)
  (h0:o0.op= .load 82 (.tmp p)∧o0.guard=none∧o0.dst=some t) (h1:o1.op= .load 82 (.tmp q)∧o1.guard=none∧o1.dst=some (t+1))
  (h2:o2.op= .call {callee:=.value (.func 71),args:=#[.tmp t,.tmp (t+1)],argTypes:=#[82,82]}∧o2.guard=none∧o2.dst=some (t+2)) (h3:o3.op= .alloc 82∧o3.guard=none∧o3.dst=some s) (h4:o4.op= .store 82 (.tmp s) (.tmp (t+2))∧o4.guard=none∧o4.dst=none)
  (hq:∀bk' a' W',ES w nt r0 r1 bk' ((s,fS x z)::EE) EP a' W'→Q .normal a' W'):(Code.region id #[o0,o1,o2,o3,o4] false).wp prog Q a W0:=by
 obtain⟨sp,cp,qp,Ep⟩:=h.ee _ mp;obtain⟨sq,cq,qq,Eq⟩:=h.ee _ mq;simp only[Bool.or_eq_false_iff,beq_eq_false_iff_ne] at Kl;obtain⟨⟨⟨⟨⟨⟨⟨⟨⟨⟨⟨⟨n1,n2⟩,n3⟩,n4⟩,n5⟩,n6⟩,n7⟩,n8⟩,n9⟩,n10⟩,n11⟩,n12⟩,n13⟩:=Kl;rw[List.all_eq_true] at hE hEP;obtain⟨a1,JE⟩:=aW (a.put (some t) (.agg cp.toArray));obtain⟨a2,Gn⟩:=aW (a1.put (some (t+1)) (.agg cq.toArray));have z1:a1.tmps.size=nt:=by rw[←JE];simp[Act.put,h.sz]
 have z2:a2.tmps.size=nt:=by rw[←Gn];simp[Act.put,z1]
 refine wp_region_list ?_;refine wpList_plain h0.2.1 λK hK=>av (ar 82 _ h0.1 (bk p) sp 82 _ (0,0) _ qp underlying82 rfl (bz Ep)) (hK _ _ ?_);rw[h0.2.2,JE];refine wpList_plain h1.2.1 λK hK=>av (ar 82 _ h1.1 (bk q) (by rw[←JE];exact(ZA a t q _ (by omega)).trans sq) 82 _ (0,0) _ qq underlying82 rfl (bz Eq)) (hK _ _ ?_);rw[h1.2.2,Gn];have k1:a2.eval (.tmp t)= .agg cp.toArray:=by rw[←Gn];refine(ZA a1 (t+1) t _ (by omega)).trans ?_;rw[←JE];exact aak a t _ (by rw[h.sz];omega)
 have k2:a2.eval (.tmp (t+1))= .agg cq.toArray:=by rw[←Gn];exact aak a1 _ _ (by rw[z1];omega)
 refine wpList_plain h2.2.1 λK hK=>bf (bw h2.1 rfl k1 k2 (by go_simp)) ((zS cp cq x z W0 Ep Eq (h.tab.later h.aY)).mono ?_);rintro r W1 ⟨c,rfl,he,hb⟩;refine⟨_,rfl,hK _ _ ?_⟩;rw[h2.2.2];obtain⟨a3,ha3⟩:=aW (a2.put (some (t+2)) (.agg c.toArray));rw[ha3];have z3:a3.tmps.size=nt:=by rw[←ha3];simp[Act.put,z2]
 refine wpList_plain h3.2.1 λK hK=>av (NV h3.1) (hK _ _ ?_);rw[h3.2.2];obtain⟨a4,ha4⟩:=aW (a3.put (some s) (.pointer (some ⟨W1.heap.size,0,none⟩)));rw[ha4];have z4:a4.tmps.size=nt:=by rw[←ha4];simp[Act.put,z3]
 have hx:a4.eval (.tmp s)= .pointer (some ⟨W1.heap.size,0,none⟩):=by rw[←ha4];exact aak a3 s _ (by rw[z3];exact hs)
 have hy:a4.eval (.tmp (t+2))= .agg c.toArray:=by rw[←ha4];refine(ZA a3 s (t+2) _ (by omega)).trans ?_;rw[←ha3];exact aak a2 _ _ (by rw[z2];omega)
 have hC:=wM.new W1 dX;have iz:Below W1.heap.size W1 (W1.alloc (.cells dX.toArray 82)):=eF;refine aaj h4.2.1 h4.1 h4.2.2 hx hy he qd hC ?_;have ck:=hb.trans (iz.mono hb.size);have cM:Below W0.heap.size W0 ((W1.alloc (.cells dX.toArray 82)).setRow W1.heap.size c.toArray):=below_setRow ck hb.size _;have old:∀i,i≠s→i≠t→i≠t+1→i≠t+2→a4.tmps.getD i ag=a.tmps.getD i ag:=λi i1 i2 i3 i4=>by rw[←ha4,ZA a3 s i _ i1,←ha3,ZA a2 (t+2) i _ i4,←Gn,ZA a1 (t+1) i _ i3,←JE,ZA a t i _ i2]
 have df4:a4.defers=[]:=by rw[←ha4,←ha3,←Gn,←JE];exact h.df
 refine hq (λi=>if i=s then W1.heap.size else bk i) _ _ ⟨z4,df4,h.aY.trans (cM.mono h.aY.size),λe me=>?_,λe me=>?_,(old 6 (by omega) (by omega) (by omega) (by omega)).trans h.s6,(old 7 (by omega) (by omega) (by omega) (by omega)).trans h.s7,h.c6.later cM,h.c7.later cM,h.rn,h.tab⟩
 ·rcases mg.1 me with rfl|me
  ·dsimp only;rw[if_pos rfl];exact⟨hx,c,setRow_heap _ _ _ c.toArray _ _ hC,he⟩
  ·have ne:=hE e me;simp only[Bool.not_eq_true',Bool.or_eq_false_iff,beq_eq_false_iff_ne] at ne;obtain⟨⟨⟨m1,m2⟩,m3⟩,m4⟩:=ne;obtain⟨l1,c',l2,l3⟩:=h.ee e me;rw[if_neg m1,old _ m1 m2 m3 m4];exact⟨l1,c',l2.later cM,l3⟩
 ·have ne:=hEP e me;simp only[Bool.not_eq_true',Bool.or_eq_false_iff,beq_eq_false_iff_ne] at ne;obtain⟨⟨⟨m1,m2⟩,m3⟩,m4⟩:=ne;obtain⟨l1,l0,c',l2,l3⟩:=h.ep e me;rw[if_neg m1,old _ m1 m2 m3 m4];exact⟨l1,l0,c',l2.later cM,l3⟩
end
def aeP (w:aw)(x2 z2 x3 z3 U:Nat)(a:Act)(W:aw):Prop:=∃bk,ES w 84 (w.heap.size+1+1+1) (w.heap.size+1+1+1+1) bk [(5,U)] [(3,x2,z2),(4,x3,z3)] a W
theorem step_ret {id:Nat}{o0 o1 o2 o3:Oper}{w W0:aw}{nt r0 r1:Nat}{bk:Nat→Nat}{EE:List (Nat×Nat)}{EP:List (Nat×Nat×Nat)}{a:Act}{Q:Exit→Act→aw→Prop}(t p q x z x' z':Nat)(h:ES w nt r0 r1 bk EE EP a W0)(hp:(p,x,z)∈EP)(hq:(q,x',z')∈EP)(hn:(q==t||6==t||7==t||6==t+1||7==t+1)=false)(ht:t+1<nt)
  (hi:Region.noSelect #[o0,o1,o2,o3]=true) (hs:((jJ .any #[o0,o1,o2,o3] [(0,true),(1,true),(2,false),(3,false)] (Array.replicate 4 false)).map λl=>(Region.ready .any #[o0,o1,o2,o3] l).isEmpty)=some true)
  (h0:o0.op= .load 87 (.tmp p)∧o0.guard=none∧o0.dst=some t) (h1:o1.op= .load 87 (.tmp q)∧o1.guard=none∧o1.dst=some (t+1)) (h2:o2.op= .store 87 (.tmp 6) (.tmp t)∧o2.guard=none∧o2.dst=none) (h3:o3.op= .store 87 (.tmp 7) (.tmp (t+1))∧o3.guard=none∧o3.dst=none)
  (hQ:∀(a':Act) W C D,a'.defers=[]→vS C x z→vS D x' z'→a'.tmps.getD 6 ag= .pointer (some ⟨r0,0,none⟩)→a'.tmps.getD 7 ag= .pointer (some ⟨r1,0,none⟩)→wN W r0 C→wN W r1 D→Below w.heap.size w W→Q .normal a' W):(Code.region id #[o0,o1,o2,o3] true).wp prog Q a W0:=by
 obtain⟨sp,⟨m1,m2⟩,cp,qp,Ep⟩:=h.ep _ hp;obtain⟨sq,⟨m3,m4⟩,cq,qq,Eq⟩:=h.ep _ hq;dsimp only at sp m1 m2 qp Ep sq m3 m4 qq Eq;simp only[Bool.or_eq_false_iff,beq_eq_false_iff_ne] at hn;obtain⟨⟨⟨⟨n1,n2⟩,n3⟩,n4⟩,n5⟩:=hn;obtain⟨a1,JE⟩:=aW (a.put (some t) (.agg cp.toArray));obtain⟨a2,Gn⟩:=aW (a1.put (some (t+1)) (.agg cq.toArray));have z1:a1.tmps.size=nt:=by rw[←JE];simp[Act.put,h.sz]
 have old:∀i,i≠t→i≠t+1→a2.tmps.getD i ag=a.tmps.getD i ag:=λi i1 i2=>by rw[←Gn,ZA a1 (t+1) i _ i2,←JE,ZA a t i _ i1]
 have k1:a2.eval (.tmp t)= .agg cp.toArray:=by rw[←Gn];refine(ZA a1 (t+1) t _ (by omega)).trans ?_;rw[←JE];exact aak a t _ (by rw[h.sz];omega)
 have k2:a2.eval (.tmp (t+1))= .agg cq.toArray:=by rw[←Gn];exact aak a1 _ _ (by rw[z1];omega)
 have s6:=(old 6 n2 n4).trans h.s6;have s7:=(old 7 n3 n5).trans h.s7;have dr:Below W0.heap.size W0 W0.drew:=gl;have c6:=h.c6.later dr;have c7:=h.c7.later dr;have qp':=qp.later dr;have qq':=qq.later dr;obtain⟨Wd,kY⟩:∃W,W0.drew=W:=⟨_,rfl⟩;rw[kY] at dr c6 c7 qp' qq';have b1:=below_setRow (h.aY.trans (dr.mono h.aY.size)) h.rn.2.1 cp.toArray;have b2:=below_setRow b1 h.rn.2.2 cq.toArray;refine ah (G:=λX Y=>Y.heap[bk p]?=X.heap[bk p]?∧Y.heap[bk q]?=X.heap[bk q]?) (by kernel_rfl) (λ_=>⟨rfl,rfl⟩) (λ_ _ _ h k=>⟨k.1.trans h.1,k.2.trans h.2⟩) hi [(0,true),(1,true),(2,false),(3,false)] rfl hs ?_;intro KK cA;rw[kY];refine aa (o:=o0) rfl (aah h0.2.1) (v:=.agg cp.toArray) (λw' hw'=>ar 87 _ h0.1 (bk p) sp 87 _ (0,0) _ (hw'.1.trans qp') underlying87 rfl (jQ Ep.qe)) ?_;rw[h0.2.2,JE];refine aa (o:=o1) rfl (aah h1.2.1) (v:=.agg cq.toArray) (λw' hw'=>ar 87 _ h1.1 (bk q) (by rw[←JE];exact(ZA a t q _ n1).trans sq) 87 _ (0,0) _ (hw'.2.trans qq') underlying87 rfl (jQ Eq.qe)) ?_;rw[h1.2.2,Gn];refine bu (o:=o2) rfl (aah h2.2.1) (NX h2.1 s6 k1 Ep.qe Rs c6) ⟨setRow_other _ _ _ _ m1,setRow_other _ _ _ _ m3⟩ ?_;rw[h2.2.2];refine bu (o:=o3) rfl (aah h3.2.1) (NX h3.1 s7 k2 Eq.qe Rs (c7.fF (Ne.symm h.rn.1) _)) ⟨setRow_other _ _ _ _ m2,setRow_other _ _ _ _ m4⟩ ?_;rw[h3.2.2];refine az cA (hQ _ _ cp cq (by rw[←Gn,←JE];exact h.df) Ep Eq s6 s7 (wN.fF (setRow_heap _ _ _ cp.toArray _ _ c6) h.rn.1 _) (setRow_heap _ _ _ cq.toArray _ _ (c7.fF (Ne.symm h.rn.1) _)) b2)
theorem Rw (A B u:bK)(x2 z2 x3 z3 U:Nat)(w:aw)(hA:vS A x2 z2)(hB:vS B x3 z3)(hu:cO u U)(ec:tE w):
  Calls prog 47 #[.agg A.toArray,.agg B.toArray,.agg u.toArray] w λe w'=>∃C D,e= .returned (.tuple #[.agg C.toArray,.agg D.toArray])∧vS C (JF x2 z2) (JG x2 z2)∧vS D (G0 x2 z2 x3 z3) (JH U x2 z2 x3 z3)∧Below w.heap.size w w':=by
 have HT:ae (tE w):=ec;have HA:ae (vS A x2 z2):=hA;have HB:ae (vS B x3 z3):=hB;have HU:ae (cO u U):=hu;have HV:ae (Vw w (((((w.alloc (.cells A.toArray 87)).alloc (.cells B.toArray 87)).alloc (.cells u.toArray 82)).alloc (.cells cy.toArray 87)).alloc (.cells cy.toArray 87)) [(w.heap.size,87,A),(w.heap.size+1,87,B),(w.heap.size+1+1,82,u),(w.heap.size+1+1+1,87,cy),(w.heap.size+1+1+1+1,87,cy)]):=by have h:=(((((Vw.none w).alloc 87 A).alloc 87 B).alloc 82 u).alloc 87 cy).alloc 87 cy;simp only[fx] at h;exact h
 clear ec hA hB hu
 go_enter func47,ntmps47
 refine wp_seq (wp_cut (aeP w x2 z2 x3 z3 U) ?_ ?_)
 ·go_wp2
  refine⟨λs=>if s=3 then w.heap.size else if s=4 then w.heap.size+1 else w.heap.size+1+1,by kernel_rfl,rfl,HV.o.aY,?_,?_,rfl,rfl,HV.o.cell (w.heap.size+1+1+1,87,cy) (by simp),HV.o.cell (w.heap.size+1+1+1+1,87,cy) (by simp),⟨by omega,by omega,by omega⟩,HT.o⟩
  ·rintro _ (_|⟨_,⟨⟩⟩);exact⟨rfl,u,HV.o.cell (w.heap.size+1+1,82,u) (by simp),HU.o⟩
  ·rintro _ (_|⟨_,(_|⟨_,⟨⟩⟩)⟩)
   ·exact⟨rfl,⟨by show w.heap.size≠_;omega,by show w.heap.size≠_;omega⟩,A,HV.o.cell (w.heap.size,87,A) (by simp),HA.o⟩
   ·exact⟨rfl,⟨by show w.heap.size+1≠_;omega,by show w.heap.size+1≠_;omega⟩,B,HV.o.cell (w.heap.size+1,87,B) (by simp),HB.o⟩
 rintro a W ⟨bk,h⟩;clear HV HT HA HB HU;refine wp_seq (aaA 14 [10,11] (λp=>if p=10 then 12 else 13) (λp=>if p=10 then 4 else 9) [(3,3,0),(1,x2,0),(3,3,1),(1,z2,0),(1,fA x2 z2,0),(3,3,0),(1,x2,0),(3,3,1),(1,z2,0),(1,fS x2 z2,0)] h rfl (by kernel_rfl) (by kernel_rfl) (by kernel_rfl) [0,1,2,3,4,5,6,7,8,9] (by kernel_rfl) ⟨kfa (x:=x2) (z:=z2) rfl (by simp) (by kernel_rfl) rfl,kpx (j:=0) (t:=21) (p:=3) (x:=x2) (z:=z2) rfl (by kernel_rfl) rfl (by simp) rfl,kfz (x:=x2) (z:=z2) rfl (by simp) (by kernel_rfl) rfl,kpz (j:=2) (t:=23) (p:=3) (x:=x2) (z:=z2) rfl (by kernel_rfl) rfl (by simp) rfl,aa9 (j:=1) (k:=3) rfl (by kernel_rfl) (by kernel_rfl) rfl rfl rfl,kfa (x:=x2) (z:=z2) rfl (by simp) (by kernel_rfl) rfl,kpx (j:=5) (t:=26) (p:=3) (x:=x2) (z:=z2) rfl (by kernel_rfl) rfl (by simp) rfl,kfz (x:=x2) (z:=z2) rfl (by simp) (by kernel_rfl) rfl,kpz (j:=7) (t:=28) (p:=3) (x:=x2) (z:=z2) rfl (by kernel_rfl) rfl (by simp) rfl,aeO (j:=6) (k:=8) rfl (by kernel_rfl) (by kernel_rfl) rfl rfl rfl,trivial⟩ λbk a W h=>?_);replace h:ES w 84 (w.heap.size+1+1+1) (w.heap.size+1+1+1+1) bk [(8,fA x2 z2),(9,fS x2 z2),(5,U)] [(3,x2,z2),(4,x3,z3)] a W:=h;refine wp_seq (aaA 14 [10,11] (λp=>if p=10 then 12 else 13) (λp=>if p=10 then 4 else 9) [(3,4,0),(1,x3,0),(3,4,1),(1,z3,0),(1,fA x3 z3,0),(3,4,0),(1,x3,0),(3,4,1),(1,z3,0),(1,fS x3 z3,0)] h rfl (by kernel_rfl) (by kernel_rfl) (by kernel_rfl) [0,1,2,3,4,5,6,7,8,9] (by kernel_rfl) ⟨kfa (x:=x3) (z:=z3) rfl (by simp) (by kernel_rfl) rfl,kpx (j:=0) (t:=31) (p:=4) (x:=x3) (z:=z3) rfl (by kernel_rfl) rfl (by simp) rfl,kfz (x:=x3) (z:=z3) rfl (by simp) (by kernel_rfl) rfl,kpz (j:=2) (t:=33) (p:=4) (x:=x3) (z:=z3) rfl (by kernel_rfl) rfl (by simp) rfl,aa9 (j:=1) (k:=3) rfl (by kernel_rfl) (by kernel_rfl) rfl rfl rfl,kfa (x:=x3) (z:=z3) rfl (by simp) (by kernel_rfl) rfl,kpx (j:=5) (t:=36) (p:=4) (x:=x3) (z:=z3) rfl (by kernel_rfl) rfl (by simp) rfl,kfz (x:=x3) (z:=z3) rfl (by simp) (by kernel_rfl) rfl,kpz (j:=7) (t:=38) (p:=4) (x:=x3) (z:=z3) rfl (by kernel_rfl) rfl (by simp) rfl,aeO (j:=6) (k:=8) rfl (by kernel_rfl) (by kernel_rfl) rfl rfl rfl,trivial⟩ λbk a W h=>?_);replace h:ES w 84 (w.heap.size+1+1+1) (w.heap.size+1+1+1+1) bk [(10,fA x3 z3),(11,fS x3 z3),(8,fA x2 z2),(9,fS x2 z2),(5,U)] [(3,x2,z2),(4,x3,z3)] a W:=h;refine wp_seq (aaA 10 [6,7] (λp=>if p=6 then 8 else 9) (λp=>if p=6 then 2 else 5) [(1,fA x2 z2,0),(1,fA x2 z2,0),(1,fM (fA x2 z2) (fA x2 z2),0),(1,fS x2 z2,0),(1,fS x2 z2,0),(1,fM (fS x2 z2) (fS x2 z2),0)] h rfl (by kernel_rfl) (by kernel_rfl) (by kernel_rfl) [0,1,2,3,4,5] (by kernel_rfl) ⟨kld rfl (by simp) (by kernel_rfl) rfl,kld rfl (by simp) (by kernel_rfl) rfl,aaJ (j:=0) (k:=1) rfl (by kernel_rfl) (by kernel_rfl) rfl rfl rfl,kld rfl (by simp) (by kernel_rfl) rfl,kld rfl (by simp) (by kernel_rfl) rfl,aaJ (j:=3) (k:=4) rfl (by kernel_rfl) (by kernel_rfl) rfl rfl rfl,trivial⟩ λbk a W h=>?_);replace h:ES w 84 (w.heap.size+1+1+1) (w.heap.size+1+1+1+1) bk [(12,fM (fA x2 z2) (fA x2 z2)),(13,fM (fS x2 z2) (fS x2 z2)),(10,fA x3 z3),(11,fS x3 z3),(8,fA x2 z2),(9,fS x2 z2),(5,U)] [(3,x2,z2),(4,x3,z3)] a W:=h;refine wp_seq (aaA 10 [6,7] (λp=>if p=6 then 8 else 9) (λp=>if p=6 then 2 else 5) [(1,fS x3 z3,0),(1,fA x2 z2,0),(1,fM (fS x3 z3) (fA x2 z2),0),(1,fA x3 z3,0),(1,fS x2 z2,0),(1,fM (fA x3 z3) (fS x2 z2),0)] h rfl (by kernel_rfl) (by kernel_rfl) (by kernel_rfl) [0,1,2,3,4,5] (by kernel_rfl) ⟨kld rfl (by simp) (by kernel_rfl) rfl,kld rfl (by simp) (by kernel_rfl) rfl,aaJ (j:=0) (k:=1) rfl (by kernel_rfl) (by kernel_rfl) rfl rfl rfl,kld rfl (by simp) (by kernel_rfl) rfl,kld rfl (by simp) (by kernel_rfl) rfl,aaJ (j:=3) (k:=4) rfl (by kernel_rfl) (by kernel_rfl) rfl rfl rfl,trivial⟩ λbk a W h=>?_);replace h:ES w 84 (w.heap.size+1+1+1) (w.heap.size+1+1+1+1) bk [(14,fM (fS x3 z3) (fA x2 z2)),(15,fM (fA x3 z3) (fS x2 z2)),(12,fM (fA x2 z2) (fA x2 z2)),(13,fM (fS x2 z2) (fS x2 z2)),(10,fA x3 z3),(11,fS x3 z3),(8,fA x2 z2),(9,fS x2 z2),(5,U)] [(3,x2,z2),(4,x3,z3)] a W:=h
 refine wp_seq (aba 53 12 13 16 (fM (fA x2 z2) (fA x2 z2)) (fM (fS x2 z2) (fS x2 z2)) h (by decide) (by decide) (by simp) (by simp) (by kernel_rfl) (by kernel_rfl) (by kernel_rfl) ⟨rfl,rfl,rfl⟩ ⟨rfl,rfl,rfl⟩ ⟨rfl,rfl,rfl⟩ ⟨rfl,rfl,rfl⟩ ⟨rfl,rfl,rfl⟩ λbk a W h=>?_);replace h:ES w 84 (w.heap.size+1+1+1) (w.heap.size+1+1+1+1) bk [(16,fS (fM (fA x2 z2) (fA x2 z2)) (fM (fS x2 z2) (fS x2 z2))),(14,fM (fS x3 z3) (fA x2 z2)),(15,fM (fA x3 z3) (fS x2 z2)),(12,fM (fA x2 z2) (fA x2 z2)),(13,fM (fS x2 z2) (fS x2 z2)),(10,fA x3 z3),(11,fS x3 z3),(8,fA x2 z2),(9,fS x2 z2),(5,U)] [(3,x2,z2),(4,x3,z3)] a W:=h;refine wp_seq (aaA 10 [6,7] (λp=>if p=6 then 8 else 9) (λp=>if p=6 then 2 else 5) [(1,fM (fS x3 z3) (fA x2 z2),0),(1,fM (fA x3 z3) (fS x2 z2),0),(1,fA (fM (fS x3 z3) (fA x2 z2)) (fM (fA x3 z3) (fS x2 z2)),0),(1,fM (fS x3 z3) (fA x2 z2),0),(1,fM (fA x3 z3) (fS x2 z2),0),(1,fS (fM (fS x3 z3) (fA x2 z2)) (fM (fA x3 z3) (fS x2 z2)),0)] h rfl (by kernel_rfl) (by kernel_rfl) (by kernel_rfl) [0,1,2,3,4,5] (by kernel_rfl) ⟨kld rfl (by simp) (by kernel_rfl) rfl,kld rfl (by simp) (by kernel_rfl) rfl,aa9 (j:=0) (k:=1) rfl (by kernel_rfl) (by kernel_rfl) rfl rfl rfl,kld rfl (by simp) (by kernel_rfl) rfl,kld rfl (by simp) (by kernel_rfl) rfl,aeO (j:=3) (k:=4) rfl (by kernel_rfl) (by kernel_rfl) rfl rfl rfl,trivial⟩ λbk a W h=>?_);replace h:ES w 84 (w.heap.size+1+1+1) (w.heap.size+1+1+1+1) bk [(17,fA (fM (fS x3 z3) (fA x2 z2)) (fM (fA x3 z3) (fS x2 z2))),(18,fS (fM (fS x3 z3) (fA x2 z2)) (fM (fA x3 z3) (fS x2 z2))),(16,fS (fM (fA x2 z2) (fA x2 z2)) (fM (fS x2 z2) (fS x2 z2))),(14,fM (fS x3 z3) (fA x2 z2)),(15,fM (fA x3 z3) (fS x2 z2)),(12,fM (fA x2 z2) (fA x2 z2)),(13,fM (fS x2 z2) (fS x2 z2)),(10,fA x3 z3),(11,fS x3 z3),(8,fA x2 z2),(9,fS x2 z2),(5,U)] [(3,x2,z2),(4,x3,z3)] a W:=h;refine wp_seq (aaY 13 11 12 10 19 [(1,fM (fA x2 z2) (fA x2 z2),0),(1,fM (fS x2 z2) (fS x2 z2),0),(1,fM (fM (fA x2 z2) (fA x2 z2)) (fM (fS x2 z2) (fS x2 z2)),0),(1,fS (fM (fA x2 z2) (fA x2 z2)) (fM (fS x2 z2) (fS x2 z2)),0),(1,fM (fA x2 z2) (fA x2 z2),0),(1,121665,0),(1,fS (fM (fA x2 z2) (fA x2 z2)) (fM (fS x2 z2) (fS x2 z2)),0),(1,fM 121665 (fS (fM (fA x2 z2) (fA x2 z2)) (fM (fS x2 z2) (fS x2 z2))),0),(1,fA (fM (fA x2 z2) (fA x2 z2)) (fM 121665 (fS (fM (fA x2 z2) (fA x2 z2)) (fM (fS x2 z2) (fS x2 z2)))),0),(1,fM (fS (fM (fA x2 z2) (fA x2 z2)) (fM (fS x2 z2) (fS x2 z2))) (fA (fM (fA x2 z2) (fA x2 z2)) (fM 121665 (fS (fM (fA x2 z2) (fA x2 z2)) (fM (fS x2 z2) (fS x2 z2))))),0),(2,fM (fM (fA x2 z2) (fA x2 z2)) (fM (fS x2 z2) (fS x2 z2)),fM (fS (fM (fA x2 z2) (fA x2 z2)) (fM (fS x2 z2) (fS x2 z2))) (fA (fM (fA x2 z2) (fA x2 z2)) (fM 121665 (fS (fM (fA x2 z2) (fA x2 z2)) (fM (fS x2 z2) (fS x2 z2))))))] (fM (fM (fA x2 z2) (fA x2 z2)) (fM (fS x2 z2) (fS x2 z2))) (fM (fS (fM (fA x2 z2) (fA x2 z2)) (fM (fS x2 z2) (fS x2 z2))) (fA (fM (fA x2 z2) (fA x2 z2)) (fM 121665 (fS (fM (fA x2 z2) (fA x2 z2)) (fM (fS x2 z2) (fS x2 z2)))))) h rfl (by kernel_rfl) (by kernel_rfl) rfl (by kernel_rfl) [0,1,2,3,4,5,6,7,8,9,10] (by kernel_rfl) ⟨kld rfl (by simp) (by kernel_rfl) rfl,kld rfl (by simp) (by kernel_rfl) rfl,aaJ (j:=0) (k:=1) rfl (by kernel_rfl) (by kernel_rfl) rfl rfl rfl,kld rfl (by simp) (by kernel_rfl) rfl,kld rfl (by simp) (by kernel_rfl) rfl,ksm (n:=121665) rfl (by decide) rfl,kld rfl (by simp) (by kernel_rfl) rfl,aaJ (j:=5) (k:=6) rfl (by kernel_rfl) (by kernel_rfl) rfl rfl rfl,aa9 (j:=4) (k:=7) rfl (by kernel_rfl) (by kernel_rfl) rfl rfl rfl,aaJ (j:=3) (k:=8) rfl (by kernel_rfl) (by kernel_rfl) rfl rfl rfl,kb2 (j:=2) (k:=9) rfl (by kernel_rfl) (by kernel_rfl) rfl rfl rfl,trivial⟩ λbk a W h=>?_)
 replace h:ES w 84 (w.heap.size+1+1+1) (w.heap.size+1+1+1+1) bk [(17,fA (fM (fS x3 z3) (fA x2 z2)) (fM (fA x3 z3) (fS x2 z2))),(18,fS (fM (fS x3 z3) (fA x2 z2)) (fM (fA x3 z3) (fS x2 z2))),(16,fS (fM (fA x2 z2) (fA x2 z2)) (fM (fS x2 z2) (fS x2 z2))),(14,fM (fS x3 z3) (fA x2 z2)),(15,fM (fA x3 z3) (fS x2 z2)),(12,fM (fA x2 z2) (fA x2 z2)),(13,fM (fS x2 z2) (fS x2 z2)),(10,fA x3 z3),(11,fS x3 z3),(8,fA x2 z2),(9,fS x2 z2),(5,U)] [(19,fM (fM (fA x2 z2) (fA x2 z2)) (fM (fS x2 z2) (fS x2 z2)),fM (fS (fM (fA x2 z2) (fA x2 z2)) (fM (fS x2 z2) (fS x2 z2))) (fA (fM (fA x2 z2) (fA x2 z2)) (fM 121665 (fS (fM (fA x2 z2) (fA x2 z2)) (fM (fS x2 z2) (fS x2 z2)))))),(3,x2,z2),(4,x3,z3)] a W:=h;refine wp_seq (aaY 11 9 10 8 20 [(1,fA (fM (fS x3 z3) (fA x2 z2)) (fM (fA x3 z3) (fS x2 z2)),0),(1,fA (fM (fS x3 z3) (fA x2 z2)) (fM (fA x3 z3) (fS x2 z2)),0),(1,fM (fA (fM (fS x3 z3) (fA x2 z2)) (fM (fA x3 z3) (fS x2 z2))) (fA (fM (fS x3 z3) (fA x2 z2)) (fM (fA x3 z3) (fS x2 z2))),0),(1,U,0),(1,fS (fM (fS x3 z3) (fA x2 z2)) (fM (fA x3 z3) (fS x2 z2)),0),(1,fS (fM (fS x3 z3) (fA x2 z2)) (fM (fA x3 z3) (fS x2 z2)),0),(1,fM (fS (fM (fS x3 z3) (fA x2 z2)) (fM (fA x3 z3) (fS x2 z2))) (fS (fM (fS x3 z3) (fA x2 z2)) (fM (fA x3 z3) (fS x2 z2))),0),(1,fM U (fM (fS (fM (fS x3 z3) (fA x2 z2)) (fM (fA x3 z3) (fS x2 z2))) (fS (fM (fS x3 z3) (fA x2 z2)) (fM (fA x3 z3) (fS x2 z2)))),0),(2,fM (fA (fM (fS x3 z3) (fA x2 z2)) (fM (fA x3 z3) (fS x2 z2))) (fA (fM (fS x3 z3) (fA x2 z2)) (fM (fA x3 z3) (fS x2 z2))),fM U (fM (fS (fM (fS x3 z3) (fA x2 z2)) (fM (fA x3 z3) (fS x2 z2))) (fS (fM (fS x3 z3) (fA x2 z2)) (fM (fA x3 z3) (fS x2 z2)))))] (fM (fA (fM (fS x3 z3) (fA x2 z2)) (fM (fA x3 z3) (fS x2 z2))) (fA (fM (fS x3 z3) (fA x2 z2)) (fM (fA x3 z3) (fS x2 z2)))) (fM U (fM (fS (fM (fS x3 z3) (fA x2 z2)) (fM (fA x3 z3) (fS x2 z2))) (fS (fM (fS x3 z3) (fA x2 z2)) (fM (fA x3 z3) (fS x2 z2))))) h rfl (by kernel_rfl) (by kernel_rfl) rfl (by kernel_rfl) [0,1,2,3,4,5,6,7,8] (by kernel_rfl) ⟨kld rfl (by simp) (by kernel_rfl) rfl,kld rfl (by simp) (by kernel_rfl) rfl,aaJ (j:=0) (k:=1) rfl (by kernel_rfl) (by kernel_rfl) rfl rfl rfl,kld rfl (by simp) (by kernel_rfl) rfl,kld rfl (by simp) (by kernel_rfl) rfl,kld rfl (by simp) (by kernel_rfl) rfl,aaJ (j:=4) (k:=5) rfl (by kernel_rfl) (by kernel_rfl) rfl rfl rfl,aaJ (j:=3) (k:=6) rfl (by kernel_rfl) (by kernel_rfl) rfl rfl rfl,kb2 (j:=2) (k:=7) rfl (by kernel_rfl) (by kernel_rfl) rfl rfl rfl,trivial⟩ λbk a W h=>?_);replace h:ES w 84 (w.heap.size+1+1+1) (w.heap.size+1+1+1+1) bk [(17,fA (fM (fS x3 z3) (fA x2 z2)) (fM (fA x3 z3) (fS x2 z2))),(18,fS (fM (fS x3 z3) (fA x2 z2)) (fM (fA x3 z3) (fS x2 z2))),(16,fS (fM (fA x2 z2) (fA x2 z2)) (fM (fS x2 z2) (fS x2 z2))),(14,fM (fS x3 z3) (fA x2 z2)),(15,fM (fA x3 z3) (fS x2 z2)),(12,fM (fA x2 z2) (fA x2 z2)),(13,fM (fS x2 z2) (fS x2 z2)),(10,fA x3 z3),(11,fS x3 z3),(8,fA x2 z2),(9,fS x2 z2),(5,U)] [(20,fM (fA (fM (fS x3 z3) (fA x2 z2)) (fM (fA x3 z3) (fS x2 z2))) (fA (fM (fS x3 z3) (fA x2 z2)) (fM (fA x3 z3) (fS x2 z2))),fM U (fM (fS (fM (fS x3 z3) (fA x2 z2)) (fM (fA x3 z3) (fS x2 z2))) (fS (fM (fS x3 z3) (fA x2 z2)) (fM (fA x3 z3) (fS x2 z2))))),(19,fM (fM (fA x2 z2) (fA x2 z2)) (fM (fS x2 z2) (fS x2 z2)),fM (fS (fM (fA x2 z2) (fA x2 z2)) (fM (fS x2 z2) (fS x2 z2))) (fA (fM (fA x2 z2) (fA x2 z2)) (fM 121665 (fS (fM (fA x2 z2) (fA x2 z2)) (fM (fS x2 z2) (fS x2 z2)))))),(3,x2,z2),(4,x3,z3)] a W:=h;refine wp_seq (step_ret 82 19 20 (JF x2 z2) (JG x2 z2) (G0 x2 z2 x3 z3) (JH U x2 z2 x3 z3) h (.tail _ (.head _)) (.head _) (by decide) (by decide) (by kernel_rfl) (by kernel_rfl) ⟨rfl,rfl,rfl⟩ ⟨rfl,rfl,rfl⟩ ⟨rfl,rfl,rfl⟩ ⟨rfl,rfl,rfl⟩ ?_);intro a' W' C D df HC HD s6 s7 R1 R2 hb
 go_wp2
 exact bodyPost_ret (pU rfl _ _ _ _ 87 _ _ _ s6 s7 R1 R2 underlying87 rfl (jQ HC.qe) (jQ HD.qe)) df ⟨C,D,rfl,HC,HD,hb⟩
theorem Lk (k u:aO)(w:aw)(hk:k.length=32)(hu:u.length=32)(ec:tE w):
  Calls prog 22 #[.agg (k.map bv).toArray,.agg (u.map bv).toArray] w λe w'=>e= .returned (.agg ((zA 32 (mK k u)).map bv).toArray)∧Below w.heap.size w w':=by
 have dG:ae (tE w):=ec;have aij:ae (cO dX 0):=Ee;have hI:ae (∀l:aO,l.length=32→(prog.info? 24).map (·.size)=some (l.map bv).toArray.size):=λl hl=>cW (n:=32) (by kernel_rfl) l hl;obtain⟨U,hU⟩:=aW (P' u);obtain⟨K,hK⟩:=aW (fC (fc k));have HmK:ae (mK k u=mX K U):=by show _=_;rw[mK,hU,hK]
 have HK:ae (fC (fc k)=K):=hK;have HU:ae (fc u % 2^255 % bJ=U):=hU;have gC:ae (Vw w (((w.alloc (.cells (k.map bv).toArray 24)).alloc (.cells (u.map bv).toArray 24)).alloc (.cells (bF).toArray 24)) [(w.heap.size,24,k.map bv),(w.heap.size+1,24,u.map bv),(w.heap.size+1+1,24,bF)]):=by have h:=(((Vw.none w).alloc 24 (k.map bv)).alloc 24 (u.map bv)).alloc 24 bF;simp only[fx] at h;exact h
 obtain⟨kk,Y0⟩:=aW (At k);have AB:kk.length=32:=by rw[←Y0,BD,hk]
 have HKB:ae (At k=kk):=Y0;have HKk:ae (fc kk=K):=by show _=_;rw[←Y0,Vh k hk,HK.o]
 have HKc:ae (fC (fc k)=fc kk):=by show _=_;rw[HKk.o,HK.o]
 clear hU hK ec Y0 HK
 go_enter func22,ntmps22
 refine wp_seq (wp_cut (λa W=>a={tmps:=#[.agg (k.map bv).toArray,.agg (u.map bv).toArray,.pointer (some ⟨w.heap.size,0,none⟩),.pointer (some ⟨w.heap.size+1,0,none⟩),.pointer (some ⟨w.heap.size+1+1,0,none⟩),ag,ag,ag,ag,ag,ag,ag,ag,ag,ag,ag,ag,ag,ag,ag,ag,ag,ag,ag,ag,ag,ag,ag,ag,ag,ag,ag,ag,ag,ag,ag,ag,ag,ag,ag,ag,ag,ag,ag,ag,ag,ag,ag,ag,ag,ag,ag,ag,ag,ag,ag,ag,ag,ag,ag],defers:=[]}∧ae (Vw w W [(w.heap.size,24,k.map bv),(w.heap.size+1,24,u.map bv),(w.heap.size+1+1,24,bF)])) ?_ ?_)
 ·go_wp2
  first|exact gC|exact⟨rfl,gC⟩|exact⟨rfl,rfl,gC⟩
 ·rintro a W0 ⟨rfl,HV⟩;clear gC;simp only[Exit.then]
  go_wp2_with (first|(refine wpList_load_row rfl 24 _ rfl (w.heap.size) rfl 24 (k.map bv).toArray (0,0) _ ?_ underlying24 rfl (hI.out k hk) ?_;exact HV.o.cell (w.heap.size,24,k.map bv) (by simp))|fail)
  refine(NY k W0 hk).mono ?_;rintro e V0 ⟨rfl,hb⟩;rw[HKB.o];have hV:=HV.o.later hb;have xA:=aL V0 (w.heap.size) _ _ (kk.map bv) (hV.cell (w.heap.size,24,k.map bv) (by simp)) (by simp[AB,hk]) (bd kk);have oe:=hV.put 0 (w.heap.size) 24 (k.map bv) (kk.map bv) rfl;obtain⟨X0,hX0⟩:∃X,V0.setRow (w.heap.size) (kk.map bv).toArray=X:=⟨_,rfl⟩;rw[hX0] at xA oe;replace HV:ae (Vw w X0 [(w.heap.size,24,kk.map bv),(w.heap.size+1,24,u.map bv),(w.heap.size+1+1,24,bF)]):=oe;clear hb hV oe hX0
  go_wp2_with (first|(refine wpList_load_row rfl 24 _ rfl (w.heap.size+1) rfl 24 (u.map bv).toArray (0,0) _ ?_ underlying24 rfl (hI.out u hu) ?_;exact HV.o.cell (w.heap.size+1,24,u.map bv) (by simp))|fail)
  clear xA;refine(Rl u X0 hu).mono ?_;rintro e V1 ⟨c5,rfl,he,hb⟩;rw[HU.o] at he;have Ch:ae (cO c5 U):=he;have PB:=he.len;have xA:=Gu V1 he;have oe:=(HV.o.later hb).alloc 82 c5;obtain⟨W1,fg⟩:∃W,V1.alloc (.cells c5.toArray 82)=W:=⟨_,rfl⟩;rw[fg] at xA oe;replace HV:ae (Vw w W1 [(w.heap.size,24,kk.map bv),(w.heap.size+1,24,u.map bv),(w.heap.size+1+1,24,bF),(V1.heap.size,82,c5)]):=oe;clear he hb oe fg
  go_wp2
  clear xA;generalize V1.heap.size=g5 at*
  refine wp_cut (λa W=>∃(g6 g7:Nat) (q14 Vq q17 Vs:bK),a={tmps:=#[.agg (k.map bv).toArray,.agg (u.map bv).toArray,.pointer (some ⟨w.heap.size,0,none⟩),.pointer (some ⟨w.heap.size+1,0,none⟩),.pointer (some ⟨w.heap.size+1+1,0,none⟩),.pointer (some ⟨g5,0,none⟩),.pointer (some ⟨g6,0,none⟩),.pointer (some ⟨g7,0,none⟩),ag,ag,.agg (k.map bv).toArray,.agg (kk.map bv).toArray,.agg (u.map bv).toArray,.agg c5.toArray,.agg q14.toArray,.agg Vq.toArray,.agg c5.toArray,.agg q17.toArray,.agg Vs.toArray,ag,ag,ag,ag,ag,ag,ag,ag,ag,ag,ag,ag,ag,ag,ag,ag,ag,ag,ag,ag,ag,ag,ag,ag,ag,ag,ag,ag,ag,ag,ag,ag,ag,ag,ag,ag,ag,ag,ag,ag,ag],defers:=[]}∧ae (cO q14 (1))∧ae (vS Vq (1) (0))∧ae (cO q17 (1))∧ae (vS Vs (U) (1))∧ae (Vw w W [(w.heap.size,24,kk.map bv),(w.heap.size+1,24,u.map bv),(w.heap.size+1+1,24,bF),(g5,82,c5),(g6,87,Vq),(g7,87,Vs)])) ?_ ?_
  ·have fB:ae (Vw w W1.drew [(w.heap.size,24,kk.map bv),(w.heap.size+1,24,u.map bv),(w.heap.size+1+1,24,bF),(g5,82,c5)]):=HV.o.drew;refine ox 9 (di _) (by kernel_rfl) (by kernel_rfl) (by kernel_rfl) (by kernel_rfl) [5,6] (λp=>if p=5 then 7 else 8) (λp=>if p=5 then 1 else 4) (Ij (by kernel_rfl)) (λj x'=>match j with|0=>∃c:bK,x'= .agg c.toArray∧cO c (1)|1=>∃c:bK,x'= .agg c.toArray∧vS c (1) (0)|2=>x'= .agg c5.toArray|3=>∃c:bK,x'= .agg c.toArray∧cO c (1)|4=>∃c:bK,x'= .agg c.toArray∧vS c (U) (1)|_=>True) ?_ ?_ ?_
   ·intro p hp x' re;simp only[mg,nj,or_false] at hp
    rcases hp with rfl|rfl
    ·obtain⟨c,hc,hE⟩:=re;exact⟨c,_,hc,hE.qe⟩
    ·obtain⟨c,hc,hE⟩:=re;exact⟨c,_,hc,hE.qe⟩
   ·intro d v W i o AA hi qL ot ho hv aX hA hb;have gw:i=0∨i=1∨i=2∨i=3∨i=4:=by simp at qL ot;omega
    rcases gw with rfl|rfl|rfl|rfl|rfl
    ·cases ho
     refine⟨rfl,bf (oU (vx:=.int .u32 ((1:Nat):Int)) rfl rfl rfl (by go_simp)) ((yC 1 W (by decide)).mono ?_)⟩;rintro r W' ⟨c,rfl,he,cU⟩;exact⟨_,rfl,_,rfl,⟨c,rfl,he⟩,cU⟩
    ·cases ho
     obtain⟨c0,kt,QY⟩:∃c:bK,v 0= .agg c.toArray∧cO c (1):=hv 0 (by decide) (by decide) (au aX 0 (by kernel_rfl)) (by decide);have h0:AA.eval (.tmp 14)= .agg c0.toArray:=(hA.new 0 14 (by decide) (au aX 0 (by kernel_rfl)) rfl (dL (by kernel_rfl))).trans kt;exact⟨rfl,av (Lf rfl h0 QY) ⟨_,rfl,⟨_,rfl,_,_,rfl,QY,Ee⟩,bZ _ _⟩⟩
    ·cases ho
     exact⟨rfl,av (ar 82 _ rfl (g5) ((hA.slot 5 (by kernel_rfl)).trans rfl) 82 _ (0,0) _ ((fB.o.later hb).cell (g5,82,c5) (by simp)) underlying82 rfl (bz Ch.o)) ⟨_,rfl,rfl,bZ _ _⟩⟩
    ·cases ho
     refine⟨rfl,bf (oU (vx:=.int .u32 ((1:Nat):Int)) rfl rfl rfl (by go_simp)) ((yC 1 W (by decide)).mono ?_)⟩;rintro r W' ⟨c,rfl,he,cU⟩;exact⟨_,rfl,_,rfl,⟨c,rfl,he⟩,cU⟩
    ·cases ho
     have h0:AA.eval (.tmp 16)= .agg c5.toArray:=(hA.new 2 16 (by decide) (au aX 2 (by kernel_rfl)) rfl (dL (by kernel_rfl))).trans (hv 2 (by decide) (by decide) (au aX 2 (by kernel_rfl)) (by decide));obtain⟨c1,gi,nU⟩:∃c:bK,v 3= .agg c.toArray∧cO c (1):=hv 3 (by decide) (by decide) (au aX 3 (by kernel_rfl)) (by decide);have h1:AA.eval (.tmp 17)= .agg c1.toArray:=(hA.new 3 17 (by decide) (au aX 3 (by kernel_rfl)) rfl (dL (by kernel_rfl))).trans gi;exact⟨rfl,av (wO rfl h0 h1 Ch.o nU) ⟨_,rfl,⟨_,rfl,_,_,rfl,Ch.o,nU⟩,bZ _ _⟩⟩
   ·intro v g W hs hp hd hb;obtain⟨q14,e0,hQ0⟩:∃c:bK,v 0= .agg c.toArray∧cO c (1):=hs 0 (by decide) (by decide) (by decide);obtain⟨Vq,e1,hQ1⟩:∃c:bK,v 1= .agg c.toArray∧vS c (1) (0):=hs 1 (by decide) (by decide) (by decide);have e2:v 2= .agg c5.toArray:=hs 2 (by decide) (by decide) (by decide);obtain⟨q17,e3,hQ3⟩:∃c:bK,v 3= .agg c.toArray∧cO c (1):=hs 3 (by decide) (by decide) (by decide);obtain⟨Vs,e4,hQ4⟩:∃c:bK,v 4= .agg c.toArray∧vS c (U) (1):=hs 4 (by decide) (by decide) (by decide);obtain⟨e5,amM,c5',n5',WC,aub,hC5⟩:=hp 5 (by decide);obtain rfl:Vq=c5':=eX (e1.symm.trans WC);obtain⟨e6,NZ,c6',n6',Sj,ads,hC6⟩:=hp 6 (by decide);obtain rfl:Vs=c6':=eX (e4.symm.trans Sj);have Jl:Vw w W ([(w.heap.size,24,kk.map bv),(w.heap.size+1,24,u.map bv),(w.heap.size+1+1,24,bF),(g5,82,c5)]++[(g 5,87,Vq),(g 6,87,Vs)]):=fB.o.places hb 87 g (λp=>match p with|5=>Vq|6=>Vs|_=>[]) [5,6] (by decide) (by
     intro p hp;simp only[mg,nj,or_false] at hp
     rcases hp with rfl|rfl
     ·exact⟨amM,hC5⟩
     ·exact⟨NZ,hC6⟩) hd
    refine dx (l':=[]) (a':={tmps:=#[.agg (k.map bv).toArray,.agg (u.map bv).toArray,.pointer (some ⟨w.heap.size,0,none⟩),.pointer (some ⟨w.heap.size+1,0,none⟩),.pointer (some ⟨w.heap.size+1+1,0,none⟩),.pointer (some ⟨g5,0,none⟩),v 5,v 6,ag,ag,.agg (k.map bv).toArray,.agg (kk.map bv).toArray,.agg (u.map bv).toArray,.agg c5.toArray,v 0,v 1,v 2,v 3,v 4,ag,ag,ag,ag,ag,ag,ag,ag,ag,ag,ag,ag,ag,ag,ag,ag,ag,ag,ag,ag,ag,ag,ag,ag,ag,ag,ag,ag,ag,ag,ag,ag,ag,ag,ag,ag,ag,ag,ag,ag,ag],defers:=[]}) (by kernel_rfl) (by kernel_rfl) ?_;rw[e0,e1,e2,e3,e4,e5,e6];exact⟨rfl,g 5,g 6,q14,Vq,q17,Vs,rfl,hQ0,hQ1,hQ3,hQ4,Jl⟩
  ·rintro a W1 ⟨g6,g7,q14,Vq,q17,Vs,rfl,aud,amN,aue,amO,HV⟩
   (try dsimp only)
   go_wp2
   have zx:ae (I3 U (K,255) 1 0 U 1):=I3.first U K
   go_loopw [8] (λi wr=>∃(j:Nat) (c6 c7:bK) (x2 z2 x3 z3:Nat),j≤255∧i= .int .i64 ((j:Int)-1)∧ae (vS c6 x2 z2)∧ae (vS c7 x3 z3)∧ae (I3 U (K,j) x2 z2 x3 z3)∧ae (Vw w wr [(w.heap.size,24,kk.map bv),(w.heap.size+1,24,u.map bv),(w.heap.size+1+1,24,bF),(g5,82,c5),(g6,87,c6),(g7,87,c7)])) (λi _=>(intOf i+1).toNat)
   case atStart=>exact⟨255,Vq,Vs,1,0,U,1,by omega,rfl,amN,amO,zx,HV⟩
   case round=>
    clear zx HV;obtain⟨j,c6,c7,x2,z2,x3,z3,hj,rfl,HP6,WN,HL,HV⟩:=hrel
    by_cases hj0:j=0
    ·subst hj0;have hi:((0:Nat):Int)-1= -1:=by omega
     rw[hi]
     go_wp2
     have Jf:z2<bJ:=by obtain⟨_,_,_,_,h⟩:=HP6.o;exact h.lt
     have vJ:=HL.o.done;have amP:=f9 vJ;clear vJ Jf;obtain⟨ac6,bc6,ec6,xc6,zc6⟩:=HP6.o;have Ec6:=f9 ec6;have Xc6:=f9 xc6;have Zc6:=f9 zc6;clear ec6 xc6 zc6;have fB:ae (Vw w wr.drew [(w.heap.size,24,kk.map bv),(w.heap.size+1,24,u.map bv),(w.heap.size+1+1,24,bF),(g5,82,c5),(g6,87,c6),(g7,87,c7)]):=HV.o.drew;refine cF 7 (by decide) (by kernel_rfl) (by kernel_rfl) (by kernel_rfl) (by kernel_rfl) [] (λ_=>0) (λ_=>0) BA (λj x'=>match j with|0=>x'= .pointer (some ⟨g6,0,none⟩)|1=>x'= .agg ac6.toArray|2=>x'= .pointer (some ⟨g6,5,none⟩)|3=>x'= .agg bc6.toArray|4=>∃c:bK,x'= .agg c.toArray∧cO c (rj (z2))|5=>∃c:bK,x'= .agg c.toArray∧cO c (fM (x2) (rj (z2)))|6=>x'= .agg ((zA 32 (fM (x2) (rj (z2)))).map bv).toArray|_=>True) ?_ ?_ ?_
     ·intro p hp x' re;cases hp
     ·intro d v W i o AA hi qL ot ho hv aX hA hb;have gw:i=0∨i=1∨i=2∨i=3∨i=4∨i=5∨i=6:=by omega
      rcases gw with rfl|rfl|rfl|rfl|rfl|rfl|rfl
      ·cases ho
       exact⟨rfl,av (zT rfl ((hA.slot 6 (by kernel_rfl)).trans rfl)) ⟨_,rfl,rfl,bZ _ _⟩⟩
      ·cases ho
       have h0:AA.eval (.tmp 53)= .pointer (some ⟨g6,0,none⟩):=(hA.new 0 53 (by decide) (au aX 0 (by kernel_rfl)) rfl (dL (by kernel_rfl))).trans (hv 0 (by decide) (by decide) (au aX 0 (by kernel_rfl)) (by decide));exact⟨rfl,av (oV rfl h0 ((fB.o.later hb).cell (g6,87,c6) (by simp)) Ec6.out Xc6.out) ⟨_,rfl,rfl,bZ _ _⟩⟩
      ·cases ho
       exact⟨rfl,av (zU rfl ((hA.slot 6 (by kernel_rfl)).trans rfl)) ⟨_,rfl,rfl,bZ _ _⟩⟩
      ·cases ho
       have h0:AA.eval (.tmp 55)= .pointer (some ⟨g6,5,none⟩):=(hA.new 2 55 (by decide) (au aX 2 (by kernel_rfl)) rfl (dL (by kernel_rfl))).trans (hv 2 (by decide) (by decide) (au aX 2 (by kernel_rfl)) (by decide));exact⟨rfl,av (oW rfl h0 ((fB.o.later hb).cell (g6,87,c6) (by simp)) Ec6.out Xc6.out Zc6.out) ⟨_,rfl,rfl,bZ _ _⟩⟩
      ·cases ho
       have h0:AA.eval (.tmp 56)= .agg bc6.toArray:=(hA.new 3 56 (by decide) (au aX 3 (by kernel_rfl)) rfl (dL (by kernel_rfl))).trans (hv 3 (by decide) (by decide) (au aX 3 (by kernel_rfl)) (by decide));refine⟨rfl,bf (oU rfl rfl h0 (by go_simp)) ((Vj bc6 (z2) W Zc6.out).mono ?_)⟩;rintro r W' ⟨c,rfl,he,cU⟩;exact⟨_,rfl,_,rfl,⟨c,rfl,he⟩,cU⟩
      ·cases ho
       have h0:AA.eval (.tmp 54)= .agg ac6.toArray:=(hA.new 1 54 (by decide) (au aX 1 (by kernel_rfl)) rfl (dL (by kernel_rfl))).trans (hv 1 (by decide) (by decide) (au aX 1 (by kernel_rfl)) (by decide));obtain⟨c1,gi,nU⟩:∃c:bK,v 4= .agg c.toArray∧cO c (rj (z2)):=hv 4 (by decide) (by decide) (au aX 4 (by kernel_rfl)) (by decide);have h1:AA.eval (.tmp 57)= .agg c1.toArray:=(hA.new 4 57 (by decide) (au aX 4 (by kernel_rfl)) rfl (dL (by kernel_rfl))).trans gi;refine⟨rfl,bf (bw rfl rfl h0 h1 (by go_simp)) ((ef ac6 c1 (x2) (rj (z2)) W Xc6.out nU).mono ?_)⟩;rintro r W' ⟨c,rfl,he,cU⟩;exact⟨_,rfl,_,rfl,⟨c,rfl,he⟩,cU⟩
      ·cases ho
       obtain⟨c0,kt,QY⟩:∃c:bK,v 5= .agg c.toArray∧cO c (fM (x2) (rj (z2))):=hv 5 (by decide) (by decide) (au aX 5 (by kernel_rfl)) (by decide);have h0:AA.eval (.tmp 58)= .agg c0.toArray:=(hA.new 5 58 (by decide) (au aX 5 (by kernel_rfl)) rfl (dL (by kernel_rfl))).trans kt;refine⟨rfl,bf (oU rfl rfl h0 (by go_simp)) ((NU c0 (fM (x2) (rj (z2))) W QY).mono ?_)⟩;rintro r W' ⟨rfl,cU⟩;exact⟨_,rfl,_,rfl,rfl,cU⟩
     ·intro v g W hs hp hd hb;have e0:v 0= .pointer (some ⟨g6,0,none⟩):=hs 0 (by decide) (by decide) (by decide);have e1:v 1= .agg ac6.toArray:=hs 1 (by decide) (by decide) (by decide);have e2:v 2= .pointer (some ⟨g6,5,none⟩):=hs 2 (by decide) (by decide) (by decide);have e3:v 3= .agg bc6.toArray:=hs 3 (by decide) (by decide) (by decide);obtain⟨q57,e4,hQ4⟩:∃c:bK,v 4= .agg c.toArray∧cO c (rj (z2)):=hs 4 (by decide) (by decide) (by decide);obtain⟨xX,e5,hQ5⟩:∃c:bK,v 5= .agg c.toArray∧cO c (fM (x2) (rj (z2))):=hs 5 (by decide) (by decide) (by decide);have e6:v 6= .agg ((zA 32 (fM (x2) (rj (z2)))).map bv).toArray:=hs 6 (by decide) (by decide) (by decide);have Jl:Vw w W _:=fB.o.later hb;refine dx (a':={tmps:=#[.agg (k.map bv).toArray,.agg (u.map bv).toArray,.pointer (some ⟨w.heap.size,0,none⟩),.pointer (some ⟨w.heap.size+1,0,none⟩),.pointer (some ⟨w.heap.size+1+1,0,none⟩),.pointer (some ⟨g5,0,none⟩),.pointer (some ⟨g6,0,none⟩),.pointer (some ⟨g7,0,none⟩),.int .i64 (-1),u9,.agg (k.map bv).toArray,.agg (kk.map bv).toArray,.agg (u.map bv).toArray,.agg c5.toArray,.agg q14.toArray,.agg Vq.toArray,.agg c5.toArray,.agg q17.toArray,.agg Vs.toArray,.int .i64 (-1),.bool false,u21,u22,u23,u24,u25,u26,u27,u28,u29,u30,u31,u32,u33,u34,u35,u36,u37,u38,u39,u40,u41,u42,u43,u44,u45,u46,u47,u48,u49,u50,u51,u52,v 0,v 1,v 2,v 3,v 4,v 5,v 6],defers:=[]}) rfl (by kernel_rfl) ?_;rw[e0,e1,e2,e3,e4,e5,e6];obtain⟨LB,Zc⟩:∃L,zA 32 (fM (x2) (rj (z2)))=L:=⟨_,rfl⟩;have LX:LB.length=32:=by rw[←Zc,aaa]
      have adz:ae (zA 32 (mK k u)=LB):=by show _=_;rw[HmK.o,←amP.o,Zc]
      rw[Zc];have hR:=Jl.cell (w.heap.size+1+1,24,bF) (by simp);have xA:=aL W (w.heap.size+1+1) _ _ (LB.map bv) hR (by simp[LX,bF]) (bd LB);have bh:=setRow_heap W (w.heap.size+1+1) _ (LB.map bv).toArray _ _ hR;have bR:ae (Below w.heap.size w (W.setRow (w.heap.size+1+1) (LB.map bv).toArray)):=below_setRow Jl.aY (by omega) _;obtain⟨X,hX⟩:=aW (W.setRow (w.heap.size+1+1) (LB.map bv).toArray);rw[hX] at xA bh bR;have cY:ae (X.heap[w.heap.size+1+1]?=some (.cells (LB.map bv).toArray 24 (0,0))):=bh;clear hR bh hX Zc
      go_wp2
      (try simp only[nu,Exit.then])
      refine bodyPost_ret (results_cell_row rfl _ _ (w.heap.size+1+1) 24 _ (0,0) _ rfl cY.o underlying24 rfl (hI.out LB LX)) rfl ?_;exact⟨by rw[adz.o],bR.o⟩
    ·obtain⟨b,rfl⟩:∃b,j=b+1:=⟨j-1,by omega⟩;have hi:((b+1:Nat):Int)-1=(b:Int):=by omega
     have ik:(0:Int)≤(b:Int):=by omega
     obtain⟨q,hq⟩:=aW (b/8);obtain⟨r,hr⟩:=aW (b % 8);have e1:(b:Int).tdiv 8=(q:Int):=by rw[Int.tdiv_eq_ediv_of_nonneg (by omega)];omega
     have e1':(b:Int)/8=(q:Int):=by omega
     have e2:(b:Int).tmod 8=(r:Int):=by rw[Int.tmod_eq_emod_of_nonneg (by omega)];omega
     have Sl:(b:Int) % 8=(r:Int):=by omega
     have adA:(q:Int)<32:=by omega
     have Sv:r<8:=by omega
     have zV:=OM kk b (by omega);rw[HKk.o,hq,hr] at zV;obtain⟨t,ht⟩:=aW ((at8 kk q).toNat);have rp:t<256:=by rw[←ht];exact(at8 kk q).toNat_lt
     have hA:dz wr w.heap.size 24 kk:=HV.o.cell (w.heap.size,24,kk.map bv) (by simp);obtain⟨ct,ft⟩:=hA.at_ q (by omega);rw[ht] at ct zV;obtain⟨s,hs⟩:=aW (t/2^r);have Ae:s<256:=by rw[←hs];exact Nat.lt_of_le_of_lt (Nat.div_le_self _ _) rp
     have E1:(t:Int)/2^r=(s:Int):=by rw[←hs];simp
     obtain⟨bt,hbt⟩:=aW (s % 2);have E2:bits .and .u8 (s:Int) 1=(bt:Int):=by rw[←hbt];exact aic ⟨s,Ae⟩
     rw[hs,hbt] at zV;obtain⟨is,ot⟩:=aW (((bt:Int)==1));have Il:ae (is=decide (K/2^b % 2=1)):=by show _=_;rw[←ot,zV,Bool.eq_iff_iff];simp;omega
     have HWr:ae (∃W,wr=W):=⟨_,rfl⟩;clear hq hr zV ht hA hs hbt;rw[hi]
     go_wp2_with (first|(refine wpList_load_row rfl 87 _ rfl g6 rfl 87 c6.toArray (0,0) _ ?_ underlying87 rfl (jQ HP6.o.qe) ?_;exact HV.o.cell (g6,87,c6) (by simp))|(refine wpList_load_row rfl 87 _ rfl g7 rfl 87 c7.toArray (0,0) _ ?_ underlying87 rfl (jQ WN.o.qe) ?_;exact HV.o.cell (g7,87,c7) (by simp))|fail)
     (try simp only[ot])
     refine(Gy is c6 c7 x2 z2 x3 z3 wr HP6.o WN.o).mono ?_;rintro e Va ⟨Ca,Da,rfl,hC,hD,hb⟩;obtain⟨a2,adB⟩:∃n,(if is=true then x3 else x2)=n:=⟨_,rfl⟩;have amS:ae ((if is=true then x3 else x2)=a2):=adB;obtain⟨d2,adC⟩:∃n,(if is=true then z3 else z2)=n:=⟨_,rfl⟩;have amT:ae ((if is=true then z3 else z2)=d2):=adC;obtain⟨a3,adD⟩:∃n,(if is=true then x2 else x3)=n:=⟨_,rfl⟩;have amU:ae ((if is=true then x2 else x3)=a3):=adD;obtain⟨d3,adE⟩:∃n,(if is=true then z2 else z3)=n:=⟨_,rfl⟩;have amV:ae ((if is=true then z2 else z3)=d3):=adE;rw[adB,adC] at hC;rw[adD,adE] at hD;clear adB adC adD adE;have HCa:ae (vS Ca (a2) (d2)):=hC;have HDa:ae (vS Da (a3) (d3)):=hD;have amY:=hC.qe.len;have amZ:=hD.qe.len;have hV:=HV.o.later hb;have gN:=aL Va g6 _ _ Ca (hV.cell (g6,87,c6) (by simp)) (by rw[amY];simp[HP6.o.qe.len]) hC.qe.one;have oe:=hV.put 4 g6 87 c6 Ca rfl;obtain⟨Xa,jN⟩:∃X,Va.setRow g6 Ca.toArray=X:=⟨_,rfl⟩;rw[jN] at gN oe;have eO:=aL Xa g7 _ _ Da (oe.cell (g7,87,c7) (by simp)) (by rw[amZ];simp[WN.o.qe.len]) hD.qe.one;have sU:=oe.put 5 g7 87 c7 Da rfl;obtain⟨Ya,lf⟩:∃X,Xa.setRow g7 Da.toArray=X:=⟨_,rfl⟩;rw[lf] at eO sU;replace HV:ae (Vw w Ya [(w.heap.size,24,kk.map bv),(w.heap.size+1,24,u.map bv),(w.heap.size+1+1,24,bF),(g5,82,c5),(g6,87,Ca),(g7,87,Da)]):=sU;clear hC hD hb hV oe sU jN lf
     go_wp2_with (first|(refine wpList_load_row rfl 87 _ rfl g6 rfl 87 Ca.toArray (0,0) _ ?_ underlying87 rfl (jQ HCa.o.qe) ?_;exact HV.o.cell (g6,87,Ca) (by simp))|(refine wpList_load_row rfl 87 _ rfl g7 rfl 87 Da.toArray (0,0) _ ?_ underlying87 rfl (jQ HDa.o.qe) ?_;exact HV.o.cell (g7,87,Da) (by simp))|(refine wpList_load_row rfl 82 _ rfl g5 rfl 82 c5.toArray (0,0) _ ?_ underlying82 rfl (bz Ch.o) ?_;exact HV.o.cell (g5,82,c5) (by simp))|fail)
     clear gN eO;refine(Rw Ca Da c5 a2 d2 a3 d3 U Ya HCa.o HDa.o Ch.o (dG.o.later HV.o.aY)).mono ?_;rintro e Vb ⟨Cb,Db,rfl,hC,hD,hb⟩;have HCb:ae (vS Cb (JF a2 d2) (JG a2 d2)):=hC;have HDb:ae (vS Db (G0 a2 d2 a3 d3) (JH U a2 d2 a3 d3)):=hD;have am2:=hC.qe.len;have am3:=hD.qe.len;have hV:=HV.o.later hb;have gN:=aL Vb g6 _ _ Cb (hV.cell (g6,87,Ca) (by simp)) (by rw[am2];simp[HCa.o.qe.len]) hC.qe.one;have oe:=hV.put 4 g6 87 Ca Cb rfl;obtain⟨Xb,jN⟩:∃X,Vb.setRow g6 Cb.toArray=X:=⟨_,rfl⟩;rw[jN] at gN oe;have eO:=aL Xb g7 _ _ Db (oe.cell (g7,87,Da) (by simp)) (by rw[am3];simp[HDa.o.qe.len]) hD.qe.one;have sU:=oe.put 5 g7 87 Da Db rfl;obtain⟨Yb,lf⟩:∃X,Xb.setRow g7 Db.toArray=X:=⟨_,rfl⟩;rw[lf] at eO sU;replace HV:ae (Vw w Yb [(w.heap.size,24,kk.map bv),(w.heap.size+1,24,u.map bv),(w.heap.size+1+1,24,bF),(g5,82,c5),(g6,87,Cb),(g7,87,Db)]):=sU;clear hC hD hb hV oe sU jN lf
     go_wp2_with (first|(refine wpList_load_row rfl 87 _ rfl g6 rfl 87 Cb.toArray (0,0) _ ?_ underlying87 rfl (jQ HCb.o.qe) ?_;exact HV.o.cell (g6,87,Cb) (by simp))|(refine wpList_load_row rfl 87 _ rfl g7 rfl 87 Db.toArray (0,0) _ ?_ underlying87 rfl (jQ HDb.o.qe) ?_;exact HV.o.cell (g7,87,Db) (by simp))|fail)
     clear gN eO;have O7:IntKind.i64.wrap ((b:Int)-1)=(b:Int)-1:=by rw[IntKind.wrap_i64];omega
     refine(Gy is Cb Db (JF a2 d2) (JG a2 d2) (G0 a2 d2 a3 d3) (JH U a2 d2 a3 d3) Yb HCb.o HDb.o).mono ?_;rintro e Vc ⟨Cc,Dc,rfl,hC,hD,hb⟩;obtain⟨f2,adF⟩:∃n,(if is=true then G0 a2 d2 a3 d3 else JF a2 d2)=n:=⟨_,rfl⟩;have am4:ae ((if is=true then G0 a2 d2 a3 d3 else JF a2 d2)=f2):=adF;obtain⟨h2,adG⟩:∃n,(if is=true then JH U a2 d2 a3 d3 else JG a2 d2)=n:=⟨_,rfl⟩;have am5:ae ((if is=true then JH U a2 d2 a3 d3 else JG a2 d2)=h2):=adG;obtain⟨f3,adH⟩:∃n,(if is=true then JF a2 d2 else G0 a2 d2 a3 d3)=n:=⟨_,rfl⟩;have am6:ae ((if is=true then JF a2 d2 else G0 a2 d2 a3 d3)=f3):=adH;obtain⟨h3,adI⟩:∃n,(if is=true then JG a2 d2 else JH U a2 d2 a3 d3)=n:=⟨_,rfl⟩;have am7:ae ((if is=true then JG a2 d2 else JH U a2 d2 a3 d3)=h3):=adI;rw[adF,adG] at hC;rw[adH,adI] at hD;clear adF adG adH adI;have HCc:ae (vS Cc (f2) (h2)):=hC;have HDc:ae (vS Dc (f3) (h3)):=hD;have am8:=hC.qe.len;have am9:=hD.qe.len;have hV:=HV.o.later hb;have gN:=aL Vc g6 _ _ Cc (hV.cell (g6,87,Cb) (by simp)) (by rw[am8];simp[HCb.o.qe.len]) hC.qe.one;have oe:=hV.put 4 g6 87 Cb Cc rfl;obtain⟨Xc,jN⟩:∃X,Vc.setRow g6 Cc.toArray=X:=⟨_,rfl⟩;rw[jN] at gN oe;have eO:=aL Xc g7 _ _ Dc (oe.cell (g7,87,Db) (by simp)) (by rw[am9];simp[HDb.o.qe.len]) hD.qe.one;have sU:=oe.put 5 g7 87 Db Dc rfl;obtain⟨Yc,lf⟩:∃X,Xc.setRow g7 Dc.toArray=X:=⟨_,rfl⟩;rw[lf] at eO sU;replace HV:ae (Vw w Yc [(w.heap.size,24,kk.map bv),(w.heap.size+1,24,u.map bv),(w.heap.size+1+1,24,bF),(g5,82,c5),(g6,87,Cc),(g7,87,Dc)]):=sU;clear hC hD hb hV oe sU jN lf
     go_wp2
     clear gN eO;have WO:ae (z2<bJ):=by obtain⟨_,_,_,_,h⟩:=HP6.o;exact h.lt
     have HZ3:ae (z3<bJ):=by obtain⟨_,_,_,_,h⟩:=WN.o;exact h.lt
     exact⟨⟨b,Cc,Dc,f2,h2,f3,h3,by omega,by first|rfl|trivial|(congr 1<;>omega),HCc,HDc,Vi HL.o Il.o WO.o HZ3.o amS.o amU.o amT.o amV.o am4.o am6.o am5.o am7.o,HV⟩,by simp[intOf]<;>omega⟩
def PC:aO:=9::cz 31 0
theorem RA:P' PC=9:=by decide+kernel
theorem Zd (k:aO):mK k PC=mX (fC (fc k)) 9:=by rw[mK,RA]
theorem GA (w:aw)(n:Nat)(b:Bool)(hn:n<bJ)(h:b=decide (n=0)):(Op.equalIn 10000 24 (.agg ((zA 32 n).map bv).toArray) (.agg #[.int .u8 0,.int .u8 0,.int .u8 0,.int .u8 0,.int .u8 0,.int .u8 0,.int .u8 0,.int .u8 0,.int .u8 0,.int .u8 0,.int .u8 0,.int .u8 0,.int .u8 0,.int .u8 0,.int .u8 0,.int .u8 0,.int .u8 0,.int .u8 0,.int .u8 0,.int .u8 0,.int .u8 0,.int .u8 0,.int .u8 0,.int .u8 0,.int .u8 0,.int .u8 0,.int .u8 0,.int .u8 0,.int .u8 0,.int .u8 0,.int .u8 0,.int .u8 0])).run prog w= .ok b w:=by
 have:=G8 w 24 32 (zA 32 n) (cz 32 0) (aaa _ _) rfl underlying24;have e:decide (zA 32 n=cz 32 0)=b:=by
  rw[h]
  by_cases h0:n=0
  ·rw[h0,Eh,decide_eq_true rfl,decide_eq_true rfl]
  ·rw[decide_eq_false h0,decide_eq_false];intro h1;have h2:=congrArg fc h1;rw[Cg,Nat.mod_eq_of_lt (Nat.lt_trans hn zj)] at h2;exact h0 (by rw[h2];decide)
 rw[e] at this;exact this
def eY:Array Value:=(cz 32 (Value.int .u8 0)).toArray
theorem oz (k:aO)(w:aw)(hk:k.length=32)(ec:tE w):
  Calls prog 5 #[.agg (k.map bv).toArray] w λe w'=>e= .returned (.agg ((zA 32 (mX (fC (fc k)) 9)).map bv).toArray)∧Below w.heap.size w w':=by
 have hI:ae (∀l:aO,l.length=32→(prog.info? 24).map (·.size)=some (l.map bv).toArray.size):=λl hl=>cW (n:=32) (by kernel_rfl) l hl;have gC:ae (Vw w ((w.alloc (.cells (k.map bv).toArray 24)).alloc (.cells bF.toArray 24)) [(w.heap.size,24,k.map bv),(w.heap.size+1,24,bF)]):=by have h:=((Vw.none w).alloc 24 (k.map bv)).alloc 24 bF;simp only[fx] at h;exact h
 have dG:ae (tE w):=ec
 go_enter func5,ntmps5
 refine wp_seq (wp_cut (λa W=>a={tmps:=#[.agg (k.map bv).toArray,.pointer (some ⟨w.heap.size,0,none⟩),.pointer (some ⟨w.heap.size+1,0,none⟩),ag,ag,ag],defers:=[]}∧ae (Vw w W [(w.heap.size,24,k.map bv),(w.heap.size+1,24,bF)])) ?_ ?_)
 ·go_wp2
  first|exact gC|exact⟨rfl,gC⟩|exact⟨rfl,rfl,gC⟩
 ·rintro a W0 ⟨rfl,HV⟩;clear gC;simp only[Exit.then]
  go_wp2_with (first|(refine wpList_load_row rfl 24 _ rfl w.heap.size rfl 24 (k.map bv).toArray (0,0) _ ?_ underlying24 rfl (hI.out k hk) ?_;exact HV.o.cell (w.heap.size,24,k.map bv) (by simp))|fail)
  refine(Lk k PC W0 hk rfl (dG.o.later HV.o.aY)).mono ?_;rintro e V ⟨rfl,hb⟩;obtain⟨LB,Zc⟩:∃L,zA 32 (mK k PC)=L:=⟨_,rfl⟩;have LX:LB.length=32:=by rw[←Zc,aaa]
  have adz:ae (zA 32 (mX (fC (fc k)) 9)=LB):=by show _=_;rw[←Zd,Zc]
  rw[Zc];have hV:=HV.o.later hb;have hR:=hV.cell (w.heap.size+1,24,bF) (by simp);have xA:=aL V (w.heap.size+1) _ _ (LB.map bv) hR (by simp[LX,bF]) (bd LB);have bh:=setRow_heap V (w.heap.size+1) _ (LB.map bv).toArray _ _ hR;have bR:ae (Below w.heap.size w (V.setRow (w.heap.size+1) (LB.map bv).toArray)):=below_setRow hV.aY (by omega) _;obtain⟨X,hX⟩:=aW (V.setRow (w.heap.size+1) (LB.map bv).toArray);rw[hX] at xA bh bR;have cY:ae (X.heap[w.heap.size+1]?=some (.cells (LB.map bv).toArray 24 (0,0))):=bh;clear hR bh hX Zc hb hV HV
  go_wp2
  (try simp only[nu,Exit.then])
  refine bodyPost_ret (results_cell_row rfl _ _ (w.heap.size+1) 24 _ (0,0) _ rfl cY.o underlying24 rfl (hI.out LB LX)) rfl ?_;exact⟨by rw[adz.o],bR.o⟩
theorem Em (k u:aO)(w:aw)(hk:k.length=32)(hu:u.length=32)(ec:tE w):
  Calls prog 57 #[.agg (k.map bv).toArray,.agg (u.map bv).toArray] w λe w'=>e= .returned (.tuple #[.agg ((zA 32 (mK k u)).map bv).toArray,.int .i64 (if mK k u=0 then 4 else 0)])∧Below w.heap.size w w':=by
 have hI:ae (∀l:aO,l.length=32→(prog.info? 24).map (·.size)=some (l.map bv).toArray.size):=λl hl=>cW (n:=32) (by kernel_rfl) l hl;have gC:ae (Vw w (((w.alloc (.cells (k.map bv).toArray 24)).alloc (.cells (u.map bv).toArray 24)).alloc (.cells bF.toArray 24)) [(w.heap.size,24,k.map bv),(w.heap.size+1,24,u.map bv),(w.heap.size+1+1,24,bF)]):=by have h:=(((Vw.none w).alloc 24 (k.map bv)).alloc 24 (u.map bv)).alloc 24 bF;simp only[fx] at h;exact h
 have dG:ae (tE w):=ec;have rP:=ZQ k u;obtain⟨m,hm⟩:=aW (mK k u);rw[hm] at rP⊢;obtain⟨er,qc⟩:=aW ((if m=0 then(4:Int) else 0):Int);rw[qc];have HM:ae (mK k u=m):=hm;have Ak:ae ((if m=0 then(4:Int) else 0)=er):=qc;clear hm qc ec
 go_enter func57,ntmps57
 refine wp_seq (wp_cut (λa W=>a={tmps:=#[.agg (k.map bv).toArray,.agg (u.map bv).toArray,.pointer (some ⟨w.heap.size,0,none⟩),.pointer (some ⟨w.heap.size+1,0,none⟩),.pointer (some ⟨w.heap.size+1+1,0,none⟩),.int .i64 0,ag,ag,ag,ag,ag,ag,ag,ag,ag],defers:=[]}∧ae (Vw w W [(w.heap.size,24,k.map bv),(w.heap.size+1,24,u.map bv),(w.heap.size+1+1,24,bF)])) ?_ ?_)
 ·go_wp2
  first|exact gC|exact⟨rfl,gC⟩|exact⟨rfl,rfl,gC⟩
 ·rintro a W0 ⟨rfl,HV⟩;clear gC;simp only[Exit.then]
  go_wp2_with (first|(refine wpList_load_row rfl 24 _ rfl w.heap.size rfl 24 (k.map bv).toArray (0,0) _ ?_ underlying24 rfl (hI.out k hk) ?_;exact HV.o.cell (w.heap.size,24,k.map bv) (by simp))|(refine wpList_load_row rfl 24 _ rfl (w.heap.size+1) rfl 24 (u.map bv).toArray (0,0) _ ?_ underlying24 rfl (hI.out u hu) ?_;exact HV.o.cell (w.heap.size+1,24,u.map bv) (by simp))|fail)
  refine(Lk k u W0 hk hu (dG.o.later HV.o.aY)).mono ?_;rintro e V ⟨rfl,hb⟩;rw[HM.o];have hlen:=aaa 32 m;have xA:=cJ V 24 (zA 32 m) 32 (aaa _ _) (by kernel_rfl) eY (by kernel_rfl);simp only[eY,cz] at xA;have hV:=(HV.o.later hb).alloc 24 ((zA 32 m).map bv);obtain⟨X,hX⟩:=aW (V.alloc (.cells ((zA 32 m).map bv).toArray 24));rw[hX] at xA hV;have HX:ae (Vw w X [(w.heap.size,24,k.map bv),(w.heap.size+1,24,u.map bv),(w.heap.size+1+1,24,bF),(V.heap.size,24,(zA 32 m).map bv)]):=hV;have hR:=hV.cell (w.heap.size+1+1,24,bF) (by simp);have eO:=aL X (w.heap.size+1+1) _ _ ((zA 32 m).map bv) hR (by simp[hlen,bF]) (bd _);have bh:=setRow_heap X (w.heap.size+1+1) _ ((zA 32 m).map bv).toArray _ _ hR;have bR:ae (Below w.heap.size w (X.setRow (w.heap.size+1+1) ((zA 32 m).map bv).toArray)):=below_setRow hV.aY (by omega) _;obtain⟨Y,hY⟩:=aW (X.setRow (w.heap.size+1+1) ((zA 32 m).map bv).toArray);rw[hY] at eO bh bR;have cY:ae (Y.heap[w.heap.size+1+1]?=some (.cells ((zA 32 m).map bv).toArray 24 (0,0))):=bh;clear hR bh hX hY hb hV HV
  by_cases h0:m=0
  ·have hz:=GA X m true rP (decide_eq_true h0).symm;have HRz:ae (X.heap[w.heap.size+1+1]?=some (.cells bF.toArray 24 (0,0))):=HX.o.cell (w.heap.size+1+1,24,bF) (by simp);have hIz:ae ((prog.info? 24).map (·.size)=some bF.toArray.size):=hI.out (cz 32 0) rfl;have il:ae (bF.toArray.all (·.oneCell')=true):=by show _=_;kernel_rfl
   have aiw:ae ((X.setRow (w.heap.size+1+1) bF.toArray).heap[w.heap.size+1+1]?=some (.cells bF.toArray 24 (0,0))):=setRow_heap X _ _ _ _ _ HRz.o;have KS:ae (Below w.heap.size w (X.setRow (w.heap.size+1+1) bF.toArray)):=below_setRow HX.o.aY (by omega) _;have HZb:ae (Value.agg bF.toArray= .agg ((zA 32 m).map bv).toArray):=by show _=_;rw[h0,Eh];rfl
   have HH:ae (m=0):=h0;clear h0 eO cY bR
   go_wp2_with (first|(refine wpList_store_row rfl 24 _ _ rfl (w.heap.size+1+1) bF.toArray rfl rfl 24 _ HRz.o hIz.out rfl il.out ?_)|(refine wpList_load_row rfl 24 _ rfl V.heap.size rfl 24 ((zA 32 m).map bv).toArray (0,0) _ ?_ underlying24 rfl (hI.out _ (aaa _ _)) ?_;exact HX.o.cell (V.heap.size,24,(zA 32 m).map bv) (by simp))|fail)
   (try simp only[nu,Exit.then])
   refine bodyPost_ret (nI rfl _ _ (w.heap.size+1+1) 24 _ (.int .i64 4) _ rfl rfl aiw.o underlying24 rfl hIz.out) rfl ?_;exact⟨by rw[←Ak.o,if_pos HH.o,HZb.o],KS.o⟩
  ·have hz:=GA X m false rP (decide_eq_false h0).symm;have HH:ae (¬m=0):=h0;clear h0
   go_wp2_with (first|(refine wpList_load_row rfl 24 _ rfl V.heap.size rfl 24 ((zA 32 m).map bv).toArray (0,0) _ ?_ underlying24 rfl (hI.out _ (aaa _ _)) ?_;exact HX.o.cell (V.heap.size,24,(zA 32 m).map bv) (by simp))|fail)
   (try simp only[nu,Exit.then])
   refine bodyPost_ret (nI rfl _ _ (w.heap.size+1+1) 24 _ (.int .i64 0) _ rfl rfl cY.o underlying24 rfl (hI.out _ (aaa _ _))) rfl ?_;exact⟨by rw[←Ak.o,if_neg HH.o],bR.o⟩
def TT (w:aw):Prop:=ke w∧tE w
def E7 (g:Nat):Prop:=(g≠1∧g≠2)∧g≠0
theorem TT.later {w w':aw}(h:TT w)(hb:Below w.heap.size w w'):TT w':=⟨h.1.later hb,h.2.later hb⟩
theorem TT.but {w w':aw}{g:Nat}(h:TT w)(hG:w.grownBy w' (some g))(hg:E7 g):TT w':=by refine⟨h.1.but hG hg.1,?_⟩;obtain⟨t,fr,hr⟩:=h.2;exact⟨t,fr,by rw[hG.block 0 (gD.1 hr).1 (λe=>hg.2 (by cases e;rfl))];exact hr⟩
theorem TT.new {w:aw}(h:TT w){g:Nat}(hg:w.heap.size≤g):E7 g:=by have h1:=h.1.lt;have h2:=h.2.lt;unfold E7;omega
def BE (own once other seen:aO):bK:=own.map bv++(once.map bv++(other.map bv++seen.map bv))
structure K4 (own once other seen:aO):Prop where
 a:own.length=32
 b:once.length=32
 c:other.length=32
 d:seen.length=32
def SV (m:MS)(own once other seen:aO):bK:=sN m.C m.H m.K m.has m.n++BE own once other seen
theorem Ze (own once other seen:aO):∀v∈BE own once other seen,v.oneCell'=true:=by
 intro v hv;unfold BE at hv
 rcases List.mem_append.1 hv with h|h
 ·exact bd own v h
 rcases List.mem_append.1 h with h|h
 ·exact bd once v h
 rcases List.mem_append.1 h with h|h
 ·exact bd other v h
 ·exact bd seen v h
theorem Zf (chain hash key:aO)(has:Bool)(n:Nat):∀v∈sN chain hash key has n,v.oneCell'=true:=by
 intro v hv;unfold sN at hv
 rcases List.mem_append.1 hv with h|h
 ·exact bd chain v h
 rcases List.mem_append.1 h with h|h
 ·exact bd hash v h
 ·exact jL key has n v h
theorem wQ (m:MS)(own once other seen:aO):∀v∈SV m own once other seen,v.oneCell'=true:=by
 intro v hv
 rcases List.mem_append.1 hv with h|h
 ·exact Zf _ _ _ _ _ v h
 ·exact Ze _ _ _ _ v h
theorem mr (chain hash key:aO)(has:Bool)(n:Nat)(hc:chain.length=32)(hh:hash.length=32)(hk:key.length=32):(sN chain hash key has n).length=98:=by simp[sN,dM,hc,hh,hk]
theorem qX {own once other seen:aO}(h:K4 own once other seen):(BE own once other seen).length=128:=by simp[BE,h.a,h.b,h.c,h.d]
structure iI (w:aw)(g t:Nat)(T:bK)(m:MS)(own once other seen:aO):Prop where
 mi:KM w g t (BE own once other seen++T) m.C m.H m.K m.has m.n
 k4:K4 own once other seen
section
variable {w w':aw} {g t:Nat} {T:bK} {m:MS} {own once other seen:aO}
theorem iI.lt (x:iI w g t T m own once other seen):g<w.heap.size:=x.mi.lt
theorem iI.later (x:iI w g t T m own once other seen)(hb:Below w.heap.size w w'):iI w' g t T m own once other seen:=⟨x.mi.later hb,x.k4⟩
theorem iI.but {g':Nat}(x:iI w g t T m own once other seen)(hG:w.grownBy w' (some g'))(eL:g≠g'):iI w' g t T m own once other seen:=⟨x.mi.but hG eL,x.k4⟩
theorem iI.len (x:iI w g t T m own once other seen):(sN m.C m.H m.K m.has m.n).length=98:=mr _ _ _ _ _ x.mi.c x.mi.h x.mi.k
theorem iI.rB (x:iI w g t T m own once other seen):(SV m own once other seen).length=226:=by rw[SV,List.length_append,x.len,qX x.k4]
theorem iI.Vt (x:iI w g t T m own once other seen):∀j v,(own.map bv)[j]?=some v→w.cell? ⟨g,98+j,none⟩=some v:=
 dF (sN m.C m.H m.K m.has m.n) (own.map bv) (once.map bv++(other.map bv++(seen.map bv++T))) (by have:=x.mi.row;simpa[BE] using this) 98 x.len
theorem iI.Ll (x:iI w g t T m own once other seen):∀j v,(once.map bv)[j]?=some v→w.cell? ⟨g,130+j,none⟩=some v:=
 dF (sN m.C m.H m.K m.has m.n++own.map bv) (once.map bv) (other.map bv++(seen.map bv++T)) (by have:=x.mi.row;simpa[BE] using this) 130 (by rw[List.length_append,x.len,List.length_map,x.k4.a])
theorem iI.En (x:iI w g t T m own once other seen):∀j v,(other.map bv)[j]?=some v→w.cell? ⟨g,162+j,none⟩=some v:=
 dF (sN m.C m.H m.K m.has m.n++(own.map bv++once.map bv)) (other.map bv) (seen.map bv++T) (by have:=x.mi.row;simpa[BE] using this) 162 (by rw[List.length_append,x.len,List.length_append,List.length_map,List.length_map,x.k4.a,x.k4.b])
theorem iI.Lm (x:iI w g t T m own once other seen):∀j v,(seen.map bv)[j]?=some v→w.cell? ⟨g,194+j,none⟩=some v:=
 dF (sN m.C m.H m.K m.has m.n++(own.map bv++(once.map bv++other.map bv))) (seen.map bv) T (by have:=x.mi.row;simpa[BE] using this) 194 (by rw[List.length_append,x.len,List.length_append,List.length_append,List.length_map,List.length_map,List.length_map,x.k4.a,x.k4.b,x.k4.c])
theorem iI.Zg (x:iI w g t T m own once other seen):∀j v,(SV m own once other seen)[j]?=some v→w.cell? ⟨g,0+j,none⟩=some v:=
 dF [] (SV m own once other seen) T (by have:=x.mi.row;simpa[SV] using this) 0 rfl
theorem iI.aix (x:iI w g t T m own once other seen):∀j v,(m.H.map bv)[j]?=some v→w.cell? ⟨g,32+j,none⟩=some v:=x.mi.J7
theorem iI.row (x:iI w g t T m own once other seen):w.heap[g]?=some (.cells (SV m own once other seen++T).toArray t (0,0)):=by have:=x.mi.row;rw[SV,List.append_assoc];exact this
theorem iI.of (h:w.heap[g]?=some (.cells (SV m own once other seen++T).toArray t (0,0)))(hc:m.C.length=32)(hh:m.H.length=32)(hk:m.K.length=32)(k:K4 own once other seen):iI w g t T m own once other seen:=
 ⟨⟨by rw[SV,List.append_assoc] at h;exact h,hc,hh,hk⟩,k⟩
theorem iI.frozen (x:iI w g t T m own once other seen)(i:Nat):w.frozen? ⟨g,i,none⟩=false:=frozen_of_row w g i _ _ x.row
theorem iI.turned (x:iI w g t T m own once other seen){m':MS}(h:KM w' g t (BE own once other seen++T) m'.C m'.H m'.K m'.has m'.n):iI w' g t T m' own once other seen:=⟨h,x.k4⟩
theorem iI.Zh (x:iI w g t T m own once other seen)(s':aO)(hl:s'.length=32):
  ∃w',(storeCells ⟨g,194,none⟩ (s'.map bv)).run prog w= .ok () w'∧iI w' g t T m own once other s'∧w.grownBy w' (some g):=by
 obtain⟨w',h1,h2,h3⟩:=tz (off:=194) (A:=sN m.C m.H m.K m.has m.n++(own.map bv++(once.map bv++other.map bv))) (old:=seen.map bv) (B:=T) (by simpa[BE] using x.mi.row)
  (by rw[List.length_append,x.len,List.length_append,List.length_append,List.length_map,List.length_map,List.length_map,x.k4.a,x.k4.b,x.k4.c]) (s'.map bv) (by simp[hl,x.k4.d]) (bd s')
 exact⟨w',h1,⟨⟨by simpa[BE] using h2,x.mi.c,x.mi.h,x.mi.k⟩,x.k4.a,x.k4.b,x.k4.c,hl⟩,h3⟩
theorem iI.Ln (x:iI w g t T m own once other seen)(s':aO)(hl:s'.length=32):
  ∃w',(storeCells ⟨g,162,none⟩ (s'.map bv)).run prog w= .ok () w'∧iI w' g t T m own once s' seen∧w.grownBy w' (some g):=by
 obtain⟨w',h1,h2,h3⟩:=tz (off:=162) (A:=sN m.C m.H m.K m.has m.n++(own.map bv++once.map bv)) (old:=other.map bv) (B:=seen.map bv++T) (by simpa[BE] using x.mi.row)
  (by rw[List.length_append,x.len,List.length_append,List.length_map,List.length_map,x.k4.a,x.k4.b]) (s'.map bv) (by simp[hl,x.k4.c]) (bd s')
 exact⟨w',h1,⟨⟨by simpa[BE] using h2,x.mi.c,x.mi.h,x.mi.k⟩,x.k4.a,x.k4.b,hl,x.k4.d⟩,h3⟩
theorem iI.eb (x:iI w g t T m own once other seen)(m':MS)(N9 Eo yE aaE:aO)(hc:m'.C.length=32)(hh:m'.H.length=32)(hk:m'.K.length=32)(k:K4 N9 Eo yE aaE):
  ∃w',(storeCells ⟨g,0,none⟩ (SV m' N9 Eo yE aaE)).run prog w= .ok () w'∧iI w' g t T m' N9 Eo yE aaE∧w.grownBy w' (some g):=by
 obtain⟨w',h1,h2,h3⟩:=tz (off:=0) (A:=[]) (old:=SV m own once other seen) (B:=T) (by simpa using x.row) rfl (SV m' N9 Eo yE aaE)
  (by rw[x.rB,SV,List.length_append,mr _ _ _ _ _ hc hh hk,qX k]) (wQ _ _ _ _ _)
 exact⟨w',h1,iI.of (by simpa using h2) hc hh hk k,h3⟩
end
theorem iI.next {w:aw}{g t nx:Nat}{m:MS}{own once other seen:aO}(x:iI w g t [.int .i64 (nx:Int)] m own once other seen):w.cell? ⟨g,226,none⟩=some (.int .i64 (nx:Int)):=by
 have:=dF (SV m own once other seen) [.int .i64 (nx:Int)] [] (by simpa using x.row) 226 x.rB 0 (.int .i64 (nx:Int)) rfl
 simpa using this
theorem iI.zW {w:aw}{g t nx:Nat}{m:MS}{own once other seen:aO}(x:iI w g t [.int .i64 (nx:Int)] m own once other seen)(k:Nat):iI (w.setCell ⟨g,226,none⟩ (.int .i64 (k:Int))) g t [.int .i64 (k:Int)] m own once other seen:=by
 refine iI.of ?_ x.mi.c x.mi.h x.mi.k x.k4;rw[heap_setCell_same w g _ _ _ _ x.row]
 congr 2
 have hl:=x.rB;simp only[List.setIfInBounds_toArray,Array.mk.injEq];rw[List.set_append_right _ _ (by omega),hl];simp
theorem oJ {m:MS}{own once other seen:aO}(h:(SV m own once other seen).length=226):(prog.info? 60).map (·.size)=some (SV m own once other seen).length:=by
 have e1:(prog.info? 60).map (·.size)=some 226:=by kernel_rfl
 rw[e1,h]
theorem rC {l:aO}(h:l.length=32):(prog.info? 24).map (·.size)=some (l.map bv).length:=by
 have e1:(prog.info? 24).map (·.size)=some 32:=by kernel_rfl
 rw[e1];simp[h]
theorem wR {l:aO}(h:l.length=32):(prog.info? 24).map (·.size)=some (l.map bv).toArray.size:=by rw[rC h];simp
abbrev pan (er:Nat):Ending:=.panicked [{v:=.iface 36 (.int .i64 (er:Int)),recovered:=false}]
theorem Er (w:aw):Calls prog 58 #[.int .i64 0] w λe w'=>(∃v,e= .returned v)∧w'=w:=by
 go_enter func58,ntmps58
 go_wp2
 refine bodyPost_end (results_none rfl _ _ _) rfl ?_;exact⟨⟨_,rfl⟩,rfl⟩
theorem Lo (er:Nat)(h:er≠0)(w:aw):Calls prog 58 #[.int .i64 (er:Int)] w λe w'=>e=pan er∧w'=w:=by
 have h':¬(er:Int)=0:=by omega
 go_enter func58,ntmps58
 go_wp2
 exact⟨rfl,rfl,rfl⟩
abbrev Sd (w:aw)(g:Nat)(m:MS)(own once other seen:aO):Prop:=iI w g 60 [] m own once other seen
section
variable {k u:aO}
theorem rT (g:Nat)(m:MS)(own once other seen k u:aO)(w:aw)(hS:Sd w g m own once other seen)(hk:k.length=32)(hu:u.length=32)(hT:TT w)(hg:E7 g)(h0:mK k u≠0):
  Calls prog 30 #[.pointer (some ⟨g,0,none⟩),.agg (k.map bv).toArray,.agg (u.map bv).toArray] w λe w'=>(∃v,e= .returned v)∧w.grownBy w' (some g)∧Sd w' g (m.key (eH k u)) own once other seen:=by
 have hI:ae (∀l:aO,l.length=32→(prog.info? 24).map (·.size)=some (l.map bv).toArray.size):=λl hl=>wR hl;have gC:ae (Vw w ((w.alloc (.cells (k.map bv).toArray 24)).alloc (.cells (u.map bv).toArray 24)) [(w.heap.size,24,k.map bv),(w.heap.size+1,24,u.map bv)]):=by have h:=((Vw.none w).alloc 24 (k.map bv)).alloc 24 (u.map bv);simp only[fx] at h;exact h
 have HS:=aj hS;have HT:=aj hT;have HG:=aj hg;have HO:=aj h0;have oa:=hS.lt;clear hS hT hg h0
 go_enter func30,ntmps30
 refine wp_seq (wp_cut (λa W=>a={tmps:=#[.pointer (some ⟨g,0,none⟩),.agg (k.map bv).toArray,.agg (u.map bv).toArray,ag,.pointer (some ⟨w.heap.size,0,none⟩),.pointer (some ⟨w.heap.size+1,0,none⟩),ag,ag,ag,ag,ag,ag,ag,ag,ag,ag,ag,ag,ag,ag,ag],defers:=[]}∧ae (Vw w W [(w.heap.size,24,k.map bv),(w.heap.size+1,24,u.map bv)])) ?_ ?_)
 ·go_wp2
  all_goals first|exact gC|exact⟨rfl,gC⟩|exact⟨rfl,rfl,gC⟩
 ·rintro a W0 ⟨rfl,HV⟩;clear gC;simp only[Exit.then]
  go_wp2_with (first|(refine wpList_load_row rfl 24 _ rfl w.heap.size rfl 24 (k.map bv).toArray (0,0) _ ?_ underlying24 rfl (hI.out k hk) ?_;exact HV.o.cell (w.heap.size,24,k.map bv) (by simp))|(refine wpList_load_row rfl 24 _ rfl (w.heap.size+1) rfl 24 (u.map bv).toArray (0,0) _ ?_ underlying24 rfl (hI.out u hu) ?_;exact HV.o.cell (w.heap.size+1,24,u.map bv) (by simp))|fail)
  refine(Em k u W0 hk hu (HT.o.2.later HV.o.aY)).mono ?_;rintro e V ⟨rfl,hb⟩;rw[if_neg HO.o];have hlen:=JK k u;obtain⟨R,hR⟩:=aW (eH k u);have UU:zA 32 (mK k u)=R:=hR;rw[hR] at hlen;rw[UU];have HR:=aj hR;have xA:=cJ V 24 R 32 hlen (by kernel_rfl) eY (by kernel_rfl);simp only[eY,cz] at xA;have hV:=(HV.o.later hb).alloc 24 (R.map bv);obtain⟨X,hX⟩:=aW (V.alloc (.cells (R.map bv).toArray 24));rw[hX] at xA hV;have HX:=aj hV;have hVs:=HV.o.later hb;have UE:w.heap.size≤V.heap.size:=hVs.aY.size;clear hX hb hV HV hR UU hVs
  go_wp2_with fail
  refine(Er X).mono ?_;rintro e w2 ⟨⟨v2,rfl⟩,rfl⟩;obtain⟨Y,hY⟩:=aW (w2.drew);have HY:=aj (hY▸HX.o.drew);have yV:=aj hY;obtain⟨p,hp⟩:=aW (V.heap.size);rw[hp] at HY UE;rw[hp];clear HX xA hY hp
  go_wp2_with fail
  refine ah (G:=bI g) (by kernel_rfl) (bI.refl g) (bI.trans g) (by kernel_rfl) [(0,true),(1,true),(2,true),(3,true),(4,false)] rfl (by kernel_rfl) ?_;intro KK cA;rw[yV.o]
  iterate 4 (refine aa rfl (by rfl) (v:=?_) ?_ ?_;rotate_left;(intro w' hw';clear hw';go_simp;with_reducible rfl);go_simp)
  refine aU (f:=59) (args:=#[.pointer (some ⟨g,0,none⟩),.slice (some ⟨p,0,none⟩) 32 32]) rfl (by rfl) (by go_simp) ?_;have Vu:=HS.o.later HY.o.aY;refine(K9 g 60 (BE own once other seen++[]) m.C m.H m.K m.has m.n (some ⟨p,0,none⟩) 32 32 R Y Vu.mi (xf 32 hlen (HY.o.cell (p,24,R.map bv) (by simp))) (λe=>by cases e) (by omega) (by omega) (by unfold maxLen;omega) (HT.o.1.later HY.o.aY) HG.o.1).mono ?_;rintro e w5 ⟨⟨v5,rfl⟩,jG,B7⟩;refine⟨_,rfl,jG,?_⟩;have LP:ae (w.grownBy w5 (some g)):=World.grownBy.trans (bI.below g HY.o.aY) jG;have LZ:ae (Sd w5 g (m.key R) own once other seen):=iI.turned (m':=m.key R) Vu B7;clear jG B7 Vu;go_simp
  refine az cA ?_;clear cA
  (try go_wp2)
  refine bodyPost_end (results_none rfl _ _ _) rfl ?_;exact⟨⟨_,rfl⟩,LP.o,by rw[HR.o];exact LZ.o⟩
theorem rU (g:Nat)(m:MS)(own once other seen k u:aO)(w:aw)(hk:k.length=32)(hu:u.length=32)(hT:TT w)(h0:mK k u=0):
  Calls prog 30 #[.pointer (some ⟨g,0,none⟩),.agg (k.map bv).toArray,.agg (u.map bv).toArray] w λe w'=>e=pan 4∧Below w.heap.size w w':=by
 have hI:ae (∀l:aO,l.length=32→(prog.info? 24).map (·.size)=some (l.map bv).toArray.size):=λl hl=>wR hl;have gC:ae (Vw w ((w.alloc (.cells (k.map bv).toArray 24)).alloc (.cells (u.map bv).toArray 24)) [(w.heap.size,24,k.map bv),(w.heap.size+1,24,u.map bv)]):=by have h:=((Vw.none w).alloc 24 (k.map bv)).alloc 24 (u.map bv);simp only[fx] at h;exact h
 have HT:=aj hT;have HO:=aj h0;clear hT h0
 go_enter func30,ntmps30
 refine wp_seq (wp_cut (λa W=>a={tmps:=#[.pointer (some ⟨g,0,none⟩),.agg (k.map bv).toArray,.agg (u.map bv).toArray,ag,.pointer (some ⟨w.heap.size,0,none⟩),.pointer (some ⟨w.heap.size+1,0,none⟩),ag,ag,ag,ag,ag,ag,ag,ag,ag,ag,ag,ag,ag,ag,ag],defers:=[]}∧ae (Vw w W [(w.heap.size,24,k.map bv),(w.heap.size+1,24,u.map bv)])) ?_ ?_)
 ·go_wp2
  all_goals first|exact gC|exact⟨rfl,gC⟩|exact⟨rfl,rfl,gC⟩
 ·rintro a W0 ⟨rfl,HV⟩;clear gC;simp only[Exit.then]
  go_wp2_with (first|(refine wpList_load_row rfl 24 _ rfl w.heap.size rfl 24 (k.map bv).toArray (0,0) _ ?_ underlying24 rfl (hI.out k hk) ?_;exact HV.o.cell (w.heap.size,24,k.map bv) (by simp))|(refine wpList_load_row rfl 24 _ rfl (w.heap.size+1) rfl 24 (u.map bv).toArray (0,0) _ ?_ underlying24 rfl (hI.out u hu) ?_;exact HV.o.cell (w.heap.size+1,24,u.map bv) (by simp))|fail)
  refine(Em k u W0 hk hu (HT.o.2.later HV.o.aY)).mono ?_;rintro e V ⟨rfl,hb⟩;rw[if_pos HO.o];have hlen:=aaa 32 (mK k u);obtain⟨R,hR⟩:=aW (zA 32 (mK k u));rw[hR] at hlen;rw[hR];have xA:=cJ V 24 R 32 hlen (by kernel_rfl) eY (by kernel_rfl);simp only[eY,cz] at xA;have hV:=(HV.o.later hb).alloc 24 (R.map bv);obtain⟨X,hX⟩:=aW (V.alloc (.cells (R.map bv).toArray 24));rw[hX] at xA hV;have HX:=aj hV.aY;clear hX hb hV HV hR
  go_wp2_with fail
  refine(Lo 4 (by omega) X).mono ?_;rintro e w2 ⟨rfl,rfl⟩
  go_wp2_with fail
  first|exact⟨rfl,HX.o⟩|exact⟨rfl,rfl,HX.o⟩
end
end Go.Proofs.YtkdpblbhcfhagaaGreatDoor
