import Derived.Test.YtkdpblbhcfhagaaGreatDoorQat
import Derived.Test.YtkdpblbhcfhagaaGreatDoorQaq
namespace Go.Proofs.YtkdpblbhcfhagaaGreatDoor
open Go.Proofs.Tryz
open _root_.Nat renaming le_refl → di, le_trans → kx, lt_of_lt_of_le → tV
open Go.RowKit.Below renaming refl → bZ, heap_alloc → jE
open Go.World renaming size_alloc → fx
open _root_.Array renaming getElem?_eq_some_iff → gD
open Go renaming undef → ag, World → aw, heap_alloc_new → eC
open _root_.List renaming replicate → cz, not_mem_nil → nj, mem_cons → mg, take_of_length_le → su
open Go.Exit renaming inBlock → nu
set_option maxHeartbeats 64000000
set_option linter.unusedVariables false
set_option maxRecDepth 100000
open Go.RowKit
theorem oD {ev:Operand→Value}{o:Oper}{w:aw}{x y:Operand}{g:Nat}{c c0:bK}(ho:o.op= .store 46 x y)(hx:ev x= .pointer (some ⟨g,0,none⟩))(hy:ev y= .agg c.toArray)(hl:c.length=3)(h1:∀v∈c,v.oneCell'=true)(hc:w.heap[g]?=some (.cells c0.toArray 46 (0,0)))(xK:c0.length=3):
  (execOp ev o).run prog w= .ok .skip (w.setRow g c.toArray):=by
 have xA:=aL w g _ _ c hc (by simp[hl,xK]) h1;have hu:=underlying46;unfold execOp;simp only[ho,hx,hy];go_simp
theorem FI {P:Program}{fn:Func}{p q:Tmp}{ty:TypeId}(h:fn.results= #[.cell p ty,.cell q ty])(tmps:Array Value)(w:aw)(g1 g2:Nat)(t:TypeId)(A B:Array Value)(d:TypeDesc)
  (hp:tmps.getD p ag= .pointer (some ⟨g1,0,none⟩)) (hq:tmps.getD q ag= .pointer (some ⟨g2,0,none⟩))
  (h1:w.heap[g1]?=some (.cells A t (0,0))) (h2:w.heap[g2]?=some (.cells B t (0,0)))
  (hu:P.underlying ty=some d) (hd:(match d with| .struct _| .array _ _=>true|_=>false)=true) (hA:(P.info? ty).map (·.size)=some A.size) (hB:(P.info? ty).map (·.size)=some B.size):
  (results fn tmps).run P w= .ok (.tuple #[.agg A,.agg B]) w:=by
 have ND:tmps[p]?.getD ag= .pointer (some ⟨g1,0,none⟩):=by simpa using hp
 have NF:tmps[q]?.getD ag= .pointer (some ⟨g2,0,none⟩):=by simpa using hq
 simp[results,h,ND,NF,asAddr,run_loadVar_row w g1 t ty A (0,0) d h1 hu hd hA,run_loadVar_row w g2 t ty B (0,0) d h2 hu hd hB]
def jv (kb ko kc:Nat):bK:=[.slice (some ⟨kb,ko,none⟩) 32 kc,.bool true,.int .u64 0]
theorem FJ (g cb co cc hb ho hc kb ko kc:Nat)(chain hash key:aO)(has:Bool)(n:Nat)(w:aw)(hM:RM w g cb co cc hb ho hc kb ko kc chain hash key has n):
  Calls prog 42 #[.pointer (some ⟨g,0,none⟩)] w λe w'=>∃vb vc,w.heap.size≤vb∧e= .returned (.tuple #[.agg (jv vb 0 vc).toArray,.agg (jv vb 32 (vc-32)).toArray])∧Below w.heap.size w w'∧bj w' (some ⟨vb,0,none⟩) 32 (gH chain [])∧bj w' (some ⟨vb,32,none⟩) 32 (nS chain []):=by
 have oa:=hM.lt;obtain⟨W0,gK⟩:∃W,(w.alloc (.cells #[.slice none 0 0,.bool false,.int .u64 0] 46)).alloc (.cells #[.slice none 0 0,.bool false,.int .u64 0] 46)=W:=⟨_,rfl⟩;have ik:Below w.heap.size w W0:=by rw[←gK];exact eF.alloc (by simp) _
 have z1:W0.heap[w.heap.size]?=some (.cells #[.slice none 0 0,.bool false,.int .u64 0] 46 (0,0)):=by rw[←gK,jE _ _ _ (by simp),eC]
 have z2:W0.heap[w.heap.size+1]?=some (.cells #[.slice none 0 0,.bool false,.int .u64 0] 46 (0,0)):=by have:=eC (w.alloc (.cells #[.slice none 0 0,.bool false,.int .u64 0] 46)) (.cells #[.slice none 0 0,.bool false,.int .u64 0] 46);rw[fx] at this;rw[←gK];exact this
 have Kf:=hM.later ik;have EX:=ak Kf;have EW:=ak ik;have Ud:=ak z1;have WO:=ak z2;have pX:=ak gK;obtain⟨q1,q2,q3,q4,q5,q6⟩:=Kf.cells;rw[←gK] at q1;clear hM Kf ik z1 z2 gK q2 q3 q4 q5 q6
 go_enter func42,ntmps42
 go_wp2_with fail
 rw[pX.o];clear q1;refine(xW (some ⟨cb,co,none⟩) 32 cc chain none 0 0 [] W0 EX.o.cB (λe=>by cases e) (by omega) EX.o.cl ⟨rfl,.inl rfl⟩ (λ_=>rfl) (by omega) (by omega)).mono ?_;rintro e w1 ⟨v1,rfl,ck,cH⟩;obtain⟨vb,vc,rfl,Sn,_⟩:=gO cH (by omega);obtain⟨_,_,e1,pz,gi,sC,_⟩:=bq cH;cases e1
 obtain⟨d1,rb⟩:∃d,gH chain []=d:=⟨_,rfl⟩;obtain⟨d2,xi⟩:∃d,nS chain []=d:=⟨_,rfl⟩;obtain⟨d3,K7⟩:∃d,CS chain []=d:=⟨_,rfl⟩;have l1:d1.length=32:=by rw[←rb];exact Bc _ _
 have l2:d2.length=32:=by rw[←xi];exact Bd _ _
 rw[rb,xi,K7] at pz;have ru:=ak rb;have Pr:=ak xi;have hA:=pz.cut (q:=32) (by omega);rw[List.append_assoc,List.take_left' l1] at hA;have hK:=pz.sub (n:=32) (q:=64) (by omega) (by omega);rw[List.append_assoc,List.drop_left' l1,List.take_left' l2] at hK;have hK':bj w1 (some ⟨vb,32,none⟩) 32 d2:=by simpa using hK
 have anv:vc≤9223372036854775807:=by unfold maxLen at sC;omega
 have hi1:(32:Int)≤(vc:Int):=by omega
 have hi2:(64:Int)≤(vc:Int):=by omega
 have hi3:¬vc=32:=by omega
 have ve:w.heap.size+2≤W0.heap.size:=by rw[←pX.o];simp
 go_wp2
 obtain⟨W,hW⟩:=aW (w1.drew);have cL:Below w1.heap.size w1 W:=by rw[←hW];exact gl
 have cM:Below W0.heap.size W0 W:=ck.trans (cL.mono ck.size);have y1:=ks Ud.o cM;have y2:=ks WO.o cM;have r1:=setRow_heap W w.heap.size _ (jv vb 0 vc).toArray _ _ y1;have r2:(W.setRow w.heap.size (jv vb 0 vc).toArray).heap[w.heap.size+1]?=_:=(setRow_other W w.heap.size (w.heap.size+1) _ (by omega)).trans y2;have Ge:=EW.o.trans (cM.mono EW.o.size);have eZ:=below_setRow Ge (di _) (jv vb 0 vc).toArray;have a3:=(hA.later cL).but (bI.setRow W w.heap.size (jv vb 0 vc).toArray) (show vb≠w.heap.size by omega);have k3:=(hK'.later cL).but (bI.setRow W w.heap.size (jv vb 0 vc).toArray) (show vb≠w.heap.size by omega);obtain⟨X1,jN⟩:∃X,W.setRow w.heap.size (jv vb 0 vc).toArray=X:=⟨_,rfl⟩;have xV:∀(v:Value),v∈jv vb 0 vc→v.oneCell'=true:=by intro v hv;simp only[jv,mg,nj,or_false] at hv;rcases hv with rfl|rfl|rfl<;>rfl
 have B6:∀(v:Value),v∈jv vb 32 (vc-32)→v.oneCell'=true:=by intro v hv;simp only[jv,mg,nj,or_false] at hv;rcases hv with rfl|rfl|rfl<;>rfl
 rw[jN] at r1 r2 eZ a3 k3;have s1:=setRow_heap X1 (w.heap.size+1) _ (jv vb 32 (vc-32)).toArray _ _ r2;have s2:(X1.setRow (w.heap.size+1) (jv vb 32 (vc-32)).toArray).heap[w.heap.size]?=_:=(setRow_other X1 (w.heap.size+1) w.heap.size _ (by omega)).trans r1;have js:=below_setRow eZ (show w.heap.size≤w.heap.size+1 by omega) (jv vb 32 (vc-32)).toArray;have a4:=a3.but (bI.setRow X1 (w.heap.size+1) (jv vb 32 (vc-32)).toArray) (show vb≠w.heap.size+1 by omega);have k4:=k3.but (bI.setRow X1 (w.heap.size+1) (jv vb 32 (vc-32)).toArray) (show vb≠w.heap.size+1 by omega);obtain⟨X2,lf⟩:∃X,X1.setRow (w.heap.size+1) (jv vb 32 (vc-32)).toArray=X:=⟨_,rfl⟩;rw[lf] at s1 s2 js a4 k4;have Bl:=ak jN;have xT:=ak lf;have PJ:=ak y1;have AD:=ak r2;have gg:=ak s1;have oE:=ak s2;have BV:=ak js;have xM:=ak a4;have HK4:=ak k4;have f8:=ak xV;have nW:=ak B6;have pd:=ak hW;clear hW cL ck cM y1 y2 r1 r2 Ge eZ a3 k3 jN lf s1 s2 js a4 k4 xV B6 rb xi K7 cH pz hA hK hK';refine ah (G:=λ_ _=>True) (by kernel_rfl) (λ_=>trivial) (λ_ _ _ _ _=>trivial) (by kernel_rfl) [(0,true),(1,true),(2,true),(3,true),(4,true),(5,true),(6,false),(7,false)] rfl (by kernel_rfl) ?_;intro KK cA;rw[pd.o]
 iterate 6 (refine aa rfl (by rfl) (v:=?_) ?_ ?_;rotate_left;(intro w' hw';clear hw';go_simp;with_reducible rfl);go_simp)
 refine bu rfl (by rfl) (w':=X1) (by rw[←Bl.o];exact oD (c:=jv vb 0 vc) (c0:=[.slice none 0 0,.bool false,.int .u64 0]) rfl rfl rfl rfl f8.o PJ.o rfl) trivial ?_;go_simp
 refine bu rfl (by rfl) (w':=X2) (by rw[←xT.o];exact oD (c:=jv vb 32 (vc-32)) (c0:=[.slice none 0 0,.bool false,.int .u64 0]) rfl rfl rfl rfl nW.o AD.o rfl) trivial ?_;go_simp
 refine az cA ?_;clear cA
 (try go_wp2)
 (try simp only[nu,Exit.then])
 refine bodyPost_ret (FI rfl _ _ w.heap.size (w.heap.size+1) 46 _ _ _ rfl rfl oE.o gg.o underlying46 rfl (by kernel_rfl) (by kernel_rfl)) rfl ?_;rw[ru.o,Pr.o]
 first|exact⟨vb,vc,by omega,rfl,BV.o,xM.o,HK4.o⟩|exact⟨vb,⟨vc,by omega,rfl⟩,BV.o,xM.o,HK4.o⟩|exact⟨vb,by omega,⟨vc,rfl⟩,BV.o,xM.o,HK4.o⟩
theorem wZ {P:Program}{fn:Func}{p q r:Tmp}{ty:TypeId}(h:fn.results= #[.cell p ty,.cell q ty,.tmp r])(tmps:Array Value)(w:aw)(g1 g2:Nat)(t:TypeId)(A B:Array Value)(v:Value)(d:TypeDesc)
  (hp:tmps.getD p ag= .pointer (some ⟨g1,0,none⟩)) (hq:tmps.getD q ag= .pointer (some ⟨g2,0,none⟩)) (hr:tmps.getD r ag=v)
  (h1:w.heap[g1]?=some (.cells A t (0,0))) (h2:w.heap[g2]?=some (.cells B t (0,0)))
  (hu:P.underlying ty=some d) (hd:(match d with| .struct _| .array _ _=>true|_=>false)=true) (hA:(P.info? ty).map (·.size)=some A.size) (hB:(P.info? ty).map (·.size)=some B.size):
  (results fn tmps).run P w= .ok (.tuple #[.agg A,.agg B,v]) w:=by
 have ND:tmps[p]?.getD ag= .pointer (some ⟨g1,0,none⟩):=by simpa using hp
 have NF:tmps[q]?.getD ag= .pointer (some ⟨g2,0,none⟩):=by simpa using hq
 have ZP:tmps[r]?.getD ag=v:=by simpa using hr
 simp[results,h,ND,NF,ZP,asAddr,run_loadVar_row w g1 t ty A (0,0) d h1 hu hd hA,run_loadVar_row w g2 t ty B (0,0) d h2 hu hd hB]
theorem aaF {w W:aw}{T:TypeId}(h:(w.alloc (.cells #[.slice none 0 0,.bool false,.int .u64 0] T)).alloc (.cells #[.slice none 0 0,.bool false,.int .u64 0] T)=W):
  Below w.heap.size w W∧W.heap[w.heap.size]?=some (.cells #[.slice none 0 0,.bool false,.int .u64 0] T (0,0))∧W.heap[w.heap.size+1]?=some (.cells #[.slice none 0 0,.bool false,.int .u64 0] T (0,0)):=by
 subst h;refine⟨eF.alloc (by simp) _,?_,?_⟩
 ·rw[jE _ _ _ (by simp),eC]
 ·have:=eC (w.alloc (.cells #[.slice none 0 0,.bool false,.int .u64 0] T)) (.cells #[.slice none 0 0,.bool false,.int .u64 0] T);rw[fx] at this;exact this
theorem rZ (kb ko kc:Nat):∀(v:Value),v∈jv kb ko kc→v.oneCell'=true:=by
 intro v hv;simp only[jv,mg,nj,or_false] at hv
 rcases hv with rfl|rfl|rfl<;>rfl
def NS.LH (x:NS):aO:=if x.bP=true then gH x.M.C [] else nS x.M.C []
def NS.LI (x:NS):aO:=if x.bP=true then nS x.M.C [] else gH x.M.C []
theorem IJ (gh gm:Nat)(X:Nat→Prop)(x:NS)(m:MS)(ob oo oc nb no nc:Nat)(ra:bW)(rl rc sb so sc:Nat)(w:aw)(hR:RN w gh gm X x m ob oo oc nb no nc ra rl rc sb so sc)(h2:x.st=2):
  Calls prog 20 #[.pointer (some ⟨gh,0,none⟩)] w λe w'=>Below w.heap.size w w'∧∃vb o1 c1 o2 c2,e= .returned (.tuple #[.agg (jv vb o1 c1).toArray,.agg (jv vb o2 c2).toArray,.bool true])∧
   bj w' (some ⟨vb,o1,none⟩) 32 x.LH∧bj w' (some ⟨vb,o2,none⟩) 32 x.LI:=by
 have oa:=hR.lt;have Hw:m=x.M:=hR.mm (by omega);subst Hw;obtain⟨W0,gK⟩:∃W,(w.alloc (.cells #[.slice none 0 0,.bool false,.int .u64 0] 46)).alloc (.cells #[.slice none 0 0,.bool false,.int .u64 0] 46)=W:=⟨_,rfl⟩;obtain⟨ik,z1,z2⟩:=aaF gK;have RB:=hR.later ik;obtain⟨q0,_,_,_,_,q5,q6,_⟩:=RB.cells;rw[h2] at q6;have ve:w.heap.size+1<W0.heap.size:=(gD.1 z2).1;have HR0:=ak RB;have EW:=ak ik;have Ud:=ak z1;have WO:=ak z2;have pX:=ak gK;rw[←gK] at q0 q6;clear hR RB ik z1 z2 gK q5
 go_enter func20,ntmps20
 go_wp2_with fail
 rw[pX.o];clear q0 q6;obtain⟨c1,c2,c3,c4,c5,c6,c7,c8,c9,vO,tT⟩:=HR0.o.mx;refine(FJ gm c1 c2 c3 c4 c5 c6 c7 c8 c9 x.M.C x.M.H x.M.K x.M.has x.M.n W0 vO).mono ?_;rintro e w1 ⟨vb,vc,hvn,rfl,ck,hA,hK⟩;clear vO tT;obtain⟨d1,rb⟩:∃d,gH x.M.C []=d:=⟨_,rfl⟩;obtain⟨d2,xi⟩:∃d,nS x.M.C []=d:=⟨_,rfl⟩;rw[rb] at hA;rw[xi] at hK;have sV:=ak (And.intro rb xi);obtain⟨A,hA0⟩:∃W,(w1.alloc (.cells #[.slice none 0 0,.bool false,.int .u64 0] 46)).alloc (.cells #[.slice none 0 0,.bool false,.int .u64 0] 46)=W:=⟨_,rfl⟩;obtain⟨hbA,z5,z6⟩:=aaF hA0;obtain⟨u,hu⟩:=aW (w1.heap.size);have auZ:W0.heap.size≤u:=by rw[←hu];exact ck.size
 rw[hu] at z5 z6;have Sn:vb<u:=by rw[←hu];exact hA.lt (by omega)
 have s5:=aL A u _ _ (jv vb 0 vc) z5 rfl (rZ _ _ _);have r5:=setRow_heap A u _ (jv vb 0 vc).toArray _ _ z5;have r6:=(setRow_other A u (u+1) (jv vb 0 vc).toArray (by omega)).trans z6;obtain⟨B,hB⟩:=aW (A.setRow u (jv vb 0 vc).toArray);have hbB:Below w1.heap.size w1 B:=by rw[←hB];exact below_setRow hbA (Nat.le_of_eq hu) _
 rw[hB] at s5 r5 r6;have s6:=aL B (u+1) _ _ (jv vb 32 (vc-32)) r6 rfl (rZ _ _ _);have t6:=setRow_heap B (u+1) _ (jv vb 32 (vc-32)).toArray _ _ r6;have t5:=(setRow_other B (u+1) u (jv vb 32 (vc-32)).toArray (by omega)).trans r5;obtain⟨C,hC⟩:=aW (B.setRow (u+1) (jv vb 32 (vc-32)).toArray);have hbC:Below w1.heap.size w1 C:=by rw[←hC];exact below_setRow hbB (by omega) _
 rw[hC] at s6 t5 t6;have vg:(jv vb 0 vc).length=3:=rfl;have Au:(jv vb 32 (vc-32)).length=3:=rfl;obtain⟨D,hD⟩:=aW (C.drew);have hbD:Below w1.heap.size w1 D:=by rw[←hD];exact hbC.trans ((bZ _ _).drew.mono hbC.size)
 have hCD:Below C.heap.size C D:=by rw[←hD];exact gl
 have ZC:Below W0.heap.size W0 D:=ck.trans (hbD.mono ck.size);have hbw:Below w.heap.size w D:=EW.o.trans (ZC.mono EW.o.size);have y1:=ks Ud.o ZC;have y2:=ks WO.o ZC;have y5:=ks t5 hCD;have y6:=ks t6 hCD;have q5:=(HR0.o.later (ck.trans (hbC.mono ck.size))).cells.2.2.2.2.2.1;have hAD:=hA.later hbD;have hKD:=hK.later hbD;have HDe:=ak hD;have PJ:=ak y1;have WY:=ak y2;have HY5:=ak y5;have HY6:=ak y6;have HBw:=ak hbw;have HAD:=ak hAD;have HKD:=ak hKD;clear rb xi hA hK ck hbA z5 z6 r5 r6 hB hbB t5 t6 hC hbC hD hbD hCD ZC hbw y1 y2 y5 y6 hAD hKD;cases xA:x.bP
 ·rw[xA] at q5;have e1:=setRow_heap D w.heap.size _ (jv vb 32 (vc-32)).toArray _ _ PJ.o;have e2:=(setRow_other D w.heap.size (w.heap.size+1) (jv vb 32 (vc-32)).toArray (by omega)).trans WY.o;have b1:=below_setRow HBw.o (di _) (jv vb 32 (vc-32)).toArray;have a1:=HAD.o.but (bI.setRow D w.heap.size (jv vb 32 (vc-32)).toArray) (show vb≠w.heap.size by omega);have k1:=HKD.o.but (bI.setRow D w.heap.size (jv vb 32 (vc-32)).toArray) (show vb≠w.heap.size by omega);have g1:(D.setRow w.heap.size (jv vb 32 (vc-32)).toArray).heap[u]?=D.heap[u]?∧(D.setRow w.heap.size (jv vb 32 (vc-32)).toArray).heap[u+1]?=D.heap[u+1]?:=⟨setRow_other _ _ _ _ (by omega),setRow_other _ _ _ _ (by omega)⟩;obtain⟨E1,nU⟩:∃E,D.setRow w.heap.size (jv vb 32 (vc-32)).toArray=E:=⟨_,rfl⟩;rw[nU] at e1 e2 b1 a1 k1 g1;have f1:=setRow_heap E1 (w.heap.size+1) _ (jv vb 0 vc).toArray _ _ e2;have f2:=(setRow_other E1 (w.heap.size+1) w.heap.size (jv vb 0 vc).toArray (by omega)).trans e1;have b2:=below_setRow b1 (show w.heap.size≤w.heap.size+1 by omega) (jv vb 0 vc).toArray;have a2:=a1.but (bI.setRow E1 (w.heap.size+1) (jv vb 0 vc).toArray) (show vb≠w.heap.size+1 by omega);have k2:=k1.but (bI.setRow E1 (w.heap.size+1) (jv vb 0 vc).toArray) (show vb≠w.heap.size+1 by omega);have g2:(E1.setRow (w.heap.size+1) (jv vb 0 vc).toArray).heap[u]?=E1.heap[u]?∧(E1.setRow (w.heap.size+1) (jv vb 0 vc).toArray).heap[u+1]?=E1.heap[u+1]?:=⟨setRow_other _ _ _ _ (by omega),setRow_other _ _ _ _ (by omega)⟩;obtain⟨E2,L4⟩:∃E,E1.setRow (w.heap.size+1) (jv vb 0 vc).toArray=E:=⟨_,rfl⟩;rw[L4] at f1 f2 b2 a2 k2 g2;have yL:=ak nU;have Qf:=ak L4;have He2:=ak e2;have RF:=ak f1;have Io:=ak f2;have Hb2:=ak b2;have Ha2:=ak a2;have Hk2:=ak k2;have Hg1:=ak g1;have Hg2:=ak g2;clear nU L4 e1 e2 f1 f2 b1 b2 a1 a2 k1 k2 g1 g2
  go_wp2_with fail
  refine ah (G:=λa b=>b.heap[u]?=a.heap[u]?∧b.heap[u+1]?=a.heap[u+1]?) (by kernel_rfl) (λ_=>⟨rfl,rfl⟩) (λ_ _ _ h k=>⟨k.1.trans h.1,k.2.trans h.2⟩) (by kernel_rfl) [(0,true),(1,true),(2,false),(3,false),(4,true)] rfl (by kernel_rfl) ?_;intro KK cA;rw[HDe.o];refine aa rfl (by rfl) (v:=.agg (jv vb 32 (vc-32)).toArray) (λw' hw'=>ar 46 _ rfl (u+1) rfl 46 _ (0,0) _ (hw'.2.trans HY6.o) underlying46 rfl (by show _=some 3;kernel_rfl)) ?_;go_simp
  refine aa rfl (by rfl) (v:=.agg (jv vb 0 vc).toArray) (λw' hw'=>ar 46 _ rfl (u) rfl 46 _ (0,0) _ (hw'.1.trans HY5.o) underlying46 rfl (by show _=some 3;kernel_rfl)) ?_;go_simp
  refine bu rfl (by rfl) (w':=E1) (by rw[←yL.o];exact oD (c:=jv vb 32 (vc-32)) (c0:=[.slice none 0 0,.bool false,.int .u64 0]) rfl rfl rfl rfl (rZ _ _ _) PJ.o rfl) Hg1.o ?_;go_simp
  refine bu rfl (by rfl) (w':=E2) (by rw[←Qf.o];exact oD (c:=jv vb 0 vc) (c0:=[.slice none 0 0,.bool false,.int .u64 0]) rfl rfl rfl rfl (rZ _ _ _) He2.o rfl) Hg2.o ?_;go_simp
  iterate 1 (refine aa rfl (by rfl) (v:=?_) ?_ ?_;rotate_left;(intro w' hw';clear hw';go_simp;with_reducible rfl);go_simp)
  refine az cA ?_;clear cA
  (try go_wp2)
  (try simp only[nu,Exit.then])
  refine bodyPost_ret (wZ rfl _ _ w.heap.size (w.heap.size+1) 46 _ _ _ _ rfl rfl rfl Io.o RF.o underlying46 rfl (by kernel_rfl) (by kernel_rfl)) rfl ?_;have hS:x.LH=d2:=by unfold NS.LH;rw[if_neg (by rw[xA];decide)];exact sV.o.2
  have hH:x.LI=d1:=by unfold NS.LI;rw[if_neg (by rw[xA];decide)];exact sV.o.1
  first|exact⟨Hb2.o,vb,32,vc-32,0,vc,rfl,by rw[hS];exact Hk2.o,by rw[hH];exact Ha2.o⟩|exact⟨Hb2.o,vb,32,vc-32,0,⟨vc,rfl⟩,by rw[hS];exact Hk2.o,by rw[hH];exact Ha2.o⟩
 ·rw[xA] at q5;have e1:=setRow_heap D w.heap.size _ (jv vb 0 vc).toArray _ _ PJ.o;have e2:=(setRow_other D w.heap.size (w.heap.size+1) (jv vb 0 vc).toArray (by omega)).trans WY.o;have b1:=below_setRow HBw.o (di _) (jv vb 0 vc).toArray;have a1:=HAD.o.but (bI.setRow D w.heap.size (jv vb 0 vc).toArray) (show vb≠w.heap.size by omega);have k1:=HKD.o.but (bI.setRow D w.heap.size (jv vb 0 vc).toArray) (show vb≠w.heap.size by omega);have g1:(D.setRow w.heap.size (jv vb 0 vc).toArray).heap[u]?=D.heap[u]?∧(D.setRow w.heap.size (jv vb 0 vc).toArray).heap[u+1]?=D.heap[u+1]?:=⟨setRow_other _ _ _ _ (by omega),setRow_other _ _ _ _ (by omega)⟩;obtain⟨E1,nU⟩:∃E,D.setRow w.heap.size (jv vb 0 vc).toArray=E:=⟨_,rfl⟩;rw[nU] at e1 e2 b1 a1 k1 g1;have f1:=setRow_heap E1 (w.heap.size+1) _ (jv vb 32 (vc-32)).toArray _ _ e2;have f2:=(setRow_other E1 (w.heap.size+1) w.heap.size (jv vb 32 (vc-32)).toArray (by omega)).trans e1;have b2:=below_setRow b1 (show w.heap.size≤w.heap.size+1 by omega) (jv vb 32 (vc-32)).toArray;have a2:=a1.but (bI.setRow E1 (w.heap.size+1) (jv vb 32 (vc-32)).toArray) (show vb≠w.heap.size+1 by omega);have k2:=k1.but (bI.setRow E1 (w.heap.size+1) (jv vb 32 (vc-32)).toArray) (show vb≠w.heap.size+1 by omega);have g2:(E1.setRow (w.heap.size+1) (jv vb 32 (vc-32)).toArray).heap[u]?=E1.heap[u]?∧(E1.setRow (w.heap.size+1) (jv vb 32 (vc-32)).toArray).heap[u+1]?=E1.heap[u+1]?:=⟨setRow_other _ _ _ _ (by omega),setRow_other _ _ _ _ (by omega)⟩;obtain⟨E2,L4⟩:∃E,E1.setRow (w.heap.size+1) (jv vb 32 (vc-32)).toArray=E:=⟨_,rfl⟩;rw[L4] at f1 f2 b2 a2 k2 g2;have yL:=ak nU;have Qf:=ak L4;have He2:=ak e2;have RF:=ak f1;have Io:=ak f2;have Hb2:=ak b2;have Ha2:=ak a2;have Hk2:=ak k2;have Hg1:=ak g1;have Hg2:=ak g2;clear nU L4 e1 e2 f1 f2 b1 b2 a1 a2 k1 k2 g1 g2
  go_wp2_with fail
  refine ah (G:=λa b=>b.heap[u]?=a.heap[u]?∧b.heap[u+1]?=a.heap[u+1]?) (by kernel_rfl) (λ_=>⟨rfl,rfl⟩) (λ_ _ _ h k=>⟨k.1.trans h.1,k.2.trans h.2⟩) (by kernel_rfl) [(0,true),(1,true),(2,false),(3,false),(4,true)] rfl (by kernel_rfl) ?_;intro KK cA;rw[HDe.o];refine aa rfl (by rfl) (v:=.agg (jv vb 0 vc).toArray) (λw' hw'=>ar 46 _ rfl (u) rfl 46 _ (0,0) _ (hw'.1.trans HY5.o) underlying46 rfl (by show _=some 3;kernel_rfl)) ?_;go_simp
  refine aa rfl (by rfl) (v:=.agg (jv vb 32 (vc-32)).toArray) (λw' hw'=>ar 46 _ rfl (u+1) rfl 46 _ (0,0) _ (hw'.2.trans HY6.o) underlying46 rfl (by show _=some 3;kernel_rfl)) ?_;go_simp
  refine bu rfl (by rfl) (w':=E1) (by rw[←yL.o];exact oD (c:=jv vb 0 vc) (c0:=[.slice none 0 0,.bool false,.int .u64 0]) rfl rfl rfl rfl (rZ _ _ _) PJ.o rfl) Hg1.o ?_;go_simp
  refine bu rfl (by rfl) (w':=E2) (by rw[←Qf.o];exact oD (c:=jv vb 32 (vc-32)) (c0:=[.slice none 0 0,.bool false,.int .u64 0]) rfl rfl rfl rfl (rZ _ _ _) He2.o rfl) Hg2.o ?_;go_simp
  iterate 1 (refine aa rfl (by rfl) (v:=?_) ?_ ?_;rotate_left;(intro w' hw';clear hw';go_simp;with_reducible rfl);go_simp)
  refine az cA ?_;clear cA
  (try go_wp2)
  (try simp only[nu,Exit.then])
  refine bodyPost_ret (wZ rfl _ _ w.heap.size (w.heap.size+1) 46 _ _ _ _ rfl rfl rfl Io.o RF.o underlying46 rfl (by kernel_rfl) (by kernel_rfl)) rfl ?_;have hS:x.LH=d1:=by unfold NS.LH;rw[if_pos xA];exact sV.o.1
  have hH:x.LI=d2:=by unfold NS.LI;rw[if_pos xA];exact sV.o.2
  first|exact⟨Hb2.o,vb,0,vc,32,vc-32,rfl,by rw[hS];exact Ha2.o,by rw[hH];exact Hk2.o⟩|exact⟨Hb2.o,vb,0,vc,32,⟨vc-32,rfl⟩,by rw[hS];exact Ha2.o,by rw[hH];exact Hk2.o⟩
theorem ER {W:aw}{s T:Nat}(h:W.heap[s]?=some (.cells ([.slice none 0 0,.bool false,.int .u64 0]:bK).toArray T (0,0))):
  ∃W1 W2 W3,W.setCell ⟨s,0,none⟩ (.slice none 0 0)=W1∧W1.setCell ⟨s,1,none⟩ (.bool false)=W2∧W2.setCell ⟨s,2,none⟩ (.int .u64 0)=W3∧
   (W.cell? ⟨s,0,none⟩=some (.slice none 0 0)∧W.frozen? ⟨s,0,none⟩=false)∧(W1.cell? ⟨s,1,none⟩=some (.bool false)∧W1.frozen? ⟨s,1,none⟩=false)∧(W2.cell? ⟨s,2,none⟩=some (.int .u64 0)∧W2.frozen? ⟨s,2,none⟩=false)∧
   W3.heap[s]?=some (.cells ([.slice none 0 0,.bool false,.int .u64 0]:bK).toArray T (0,0))∧W.grownBy W3 (some s):=by
 have h1:(W.setCell ⟨s,0,none⟩ (.slice none 0 0)).heap[s]?=some (.cells ([.slice none 0 0,.bool false,.int .u64 0]:bK).toArray T (0,0)):=by have:=kr h 0 (.slice none 0 0);exact this
 have g1:W.grownBy (W.setCell ⟨s,0,none⟩ (.slice none 0 0)) (some s):=bI.setCell W s 0 _;obtain⟨W1,fg⟩:=aW (W.setCell ⟨s,0,none⟩ (.slice none 0 0));rw[fg] at h1 g1;have h2:(W1.setCell ⟨s,1,none⟩ (.bool false)).heap[s]?=some (.cells ([.slice none 0 0,.bool false,.int .u64 0]:bK).toArray T (0,0)):=by have:=kr h1 1 (.bool false);exact this
 have g2:W1.grownBy (W1.setCell ⟨s,1,none⟩ (.bool false)) (some s):=bI.setCell W1 s 1 _;obtain⟨W2,fV⟩:=aW (W1.setCell ⟨s,1,none⟩ (.bool false));rw[fV] at h2 g2;have h3:(W2.setCell ⟨s,2,none⟩ (.int .u64 0)).heap[s]?=some (.cells ([.slice none 0 0,.bool false,.int .u64 0]:bK).toArray T (0,0)):=by have:=kr h2 2 (.int .u64 0);exact this
 have g3:W2.grownBy (W2.setCell ⟨s,2,none⟩ (.int .u64 0)) (some s):=bI.setCell W2 s 2 _;exact⟨W1,W2,_,fg,fV,rfl,⟨dB h rfl,frozen_of_row W s 0 _ _ h⟩,⟨dB h1 rfl,frozen_of_row W1 s 1 _ _ h1⟩,⟨dB h2 rfl,frozen_of_row W2 s 2 _ _ h2⟩,h3,World.grownBy.trans (World.grownBy.trans g1 g2) g3⟩
theorem IQ (gh gm:Nat)(X:Nat→Prop)(x:NS)(m:MS)(ob oo oc nb no nc:Nat)(ra:bW)(rl rc sb so sc:Nat)(w:aw)(hR:RN w gh gm X x m ob oo oc nb no nc ra rl rc sb so sc)(h2:x.st≠2):
  Calls prog 20 #[.pointer (some ⟨gh,0,none⟩)] w λe w'=>Below w.heap.size w w'∧e= .returned (.tuple #[.agg #[.slice none 0 0,.bool false,.int .u64 0],.agg #[.slice none 0 0,.bool false,.int .u64 0],.bool false]):=by
 have oa:=hR.lt;obtain⟨W0,gK⟩:∃W,(w.alloc (.cells #[.slice none 0 0,.bool false,.int .u64 0] 46)).alloc (.cells #[.slice none 0 0,.bool false,.int .u64 0] 46)=W:=⟨_,rfl⟩;obtain⟨ik,z1,z2⟩:=aaF gK;obtain⟨_,_,_,_,_,_,q6,_⟩:=(hR.later ik).cells;have Qu:¬(x.st:Int)=2:=by omega
 obtain⟨A1,A2,A3,e1,e2,e3,⟨p1,p2⟩,⟨p3,p4⟩,⟨p5,p6⟩,r1,g1⟩:=ER z1;have b1:=dI ik g1 (di _);have y2:A3.heap[w.heap.size+1]?=some (.cells ([.slice none 0 0,.bool false,.int .u64 0]:bK).toArray 46 (0,0)):=by rw[g1.block (w.heap.size+1) (gD.1 z2).1 (λe=>by have h:=Option.some.inj e;omega)];exact z2
 obtain⟨B1,B2,B3,e4,e5,e6,⟨p7,p8⟩,⟨p9,p10⟩,⟨p11,p12⟩,r2,g2⟩:=ER y2;have b2:=dI b1 g2 (Nat.le_succ _);have r1':B3.heap[w.heap.size]?=some (.cells ([.slice none 0 0,.bool false,.int .u64 0]:bK).toArray 46 (0,0)):=by rw[g2.block w.heap.size (gD.1 r1).1 (λe=>by have h:=Option.some.inj e;omega)];exact r1
 have Ck:=ak r1';have HT6:=ak r2;have O6:=ak b2;clear hR ik z1 z2 r1 r2 r1' g1 g2 b1 b2 y2
 go_enter func20,ntmps20
 go_wp2_with fail
 (try simp only[nu,Exit.then])
 refine bodyPost_ret (wZ rfl _ _ w.heap.size (w.heap.size+1) 46 _ _ _ _ rfl rfl rfl Ck.o HT6.o underlying46 rfl (by kernel_rfl) (by kernel_rfl)) rfl ?_
 first|exact⟨O6.o,rfl⟩|exact O6.o
section
variable {w w':aw} {gh gm g a b:Nat} {X X':Nat→Prop} {x:NS} {m:MS} {ob oo oc nb no nc:Nat} {ra:bW} {rl rc sb so sc:Nat}
theorem x4.sub (h:x4 w gm X m)(hX:∀y,X' y→X y):x4 w gm X' m:=by obtain⟨cb,co,cc,hb,ho,hc,kb,ko,kc,h1,h2,h3,h4⟩:=h;exact⟨cb,co,cc,hb,ho,hc,kb,ko,kc,h1,λe=>h2 (hX _ e),λe=>h3 (hX _ e),λe=>h4 (hX _ e)⟩
theorem x4.Mv (h:x4 w gm X m)(hG:eE a b w w')(ha:X a)(hb:X b)(na:gm≠a)(nb:gm≠b):x4 w' gm X m:=by
 obtain⟨cb,co,cc,cU,ho,hc,kb,ko,kc,h1,h2,h3,h4⟩:=h;refine⟨cb,co,cc,cU,ho,hc,kb,ko,kc,⟨eE.row h1.row hG na nb,h1.cl,h1.hl,h1.kl,h1.kh,eE.nw h1.cB hG ?_,eE.nw h1.hB hG ?_,eE.nw h1.kB hG ?_,h1.cg,h1.hg,h1.kg⟩,h2,h3,h4⟩
 all_goals
  intro _ y o f e;cases e
  constructor
  all_goals
   intro e;subst e;contradiction
theorem RN.more (h:RN w gh gm X x m ob oo oc nb no nc ra rl rc sb so sc)(hX:∀y,X' y→X y∨w.heap.size≤y):RN w gh gm X' x m ob oo oc nb no nc ra rl rc sb so sc:=by
 have l1:=h.ow.lt (by omega);have l2:=h.on.lt (by omega);have l3:=h.ss.lt (by omega);refine⟨h.row,h.ow,h.on,h.rr,h.ss,?_,h.mm,h.hm,h.ng,λhp y o f e=>?_,?_,?_,?_⟩
 ·obtain⟨cb,co,cc,hb,ho,hc,kb,ko,kc,hR,h5,h6,h7⟩:=h.mx;have k1:=hR.cB.lt (by omega);have k2:=hR.hB.lt (by omega);have k3:=hR.kB.lt (by omega);refine⟨cb,co,cc,hb,ho,hc,kb,ko,kc,hR,?_,?_,?_⟩
  ·rintro(e|e)
   ·rcases hX _ e with e|e
    ·exact h5 (.inl e)
    ·omega
   ·exact h5 (.inr e)
  ·rintro(e|e)
   ·rcases hX _ e with e|e
    ·exact h6 (.inl e)
    ·omega
   ·exact h6 (.inr e)
  ·rintro(e|e)
   ·rcases hX _ e with e|e
    ·exact h7 (.inl e)
    ·omega
   ·exact h7 (.inr e)
 ·obtain⟨r1,r2,r3⟩:=h.rg hp y o f e;refine⟨r1,r2,λe2=>?_⟩
  rcases hX _ e2 with e3|e3
  ·exact r3 e3
  ·subst e;have hk:f=none:=by
    rcases h.rr.2 with h0|⟨_,_,e4,_⟩
    ·omega
    ·cases e4;rfl
   subst hk;have:=h.rr.lt hp;omega
 ·intro e
  rcases hX _ e with e|e
  ·exact h.nx.1 e
  ·omega
 ·intro e
  rcases hX _ e with e|e
  ·exact h.nx.2.1 e
  ·omega
 ·intro e
  rcases hX _ e with e|e
  ·exact h.nx.2.2 e
  ·omega
theorem RN.but (h:RN w gh gm X x m ob oo oc nb no nc ra rl rc sb so sc)(hG:w.grownBy w' (some g))(hg:X g)(n1:g≠gh)(n2:g≠gm):RN w' gh gm X x m ob oo oc nb no nc ra rl rc sb so sc:=
 ⟨by rw[hG.block gh h.lt (λe=>n1 (by cases e;rfl))];exact h.row,h.ow.but hG (λe=>h.nx.1 (e▸hg)),h.on.but hG (λe=>h.nx.2.1 (e▸hg)),oX h.rr hG (λhp y o f e e2=>(h.rg hp y o f e).2.2 (e2▸hg)),h.ss.but hG (λe=>h.nx.2.2 (e▸hg)),h.mx.but hG (.inl hg) (λe=>n2 e.symm),h.mm,h.hm,h.ng,h.rg,h.nx⟩
theorem RN.Mv (h:RN w gh gm X x m ob oo oc nb no nc ra rl rc sb so sc)(hG:eE a b w w')(ha:X a)(hb:X b)(n1:gh≠a∧gh≠b)(n2:gm≠a∧gm≠b):RN w' gh gm X x m ob oo oc nb no nc ra rl rc sb so sc:=by
 obtain⟨x1,x2,x3⟩:=h.nx;refine⟨eE.row h.row hG n1.1 n1.2,eE.nw h.ow hG ?_,eE.nw h.on hG ?_,eE.nw h.rr hG ?_,eE.nw h.ss hG ?_,h.mx.Mv hG (.inl ha) (.inl hb) n2.1 n2.2,h.mm,h.hm,h.ng,h.rg,h.nx⟩
 ·intro _ y o f e;cases e;exact⟨λe=>x1 (e▸ha),λe=>x1 (e▸hb)⟩
 ·intro _ y o f e;cases e;exact⟨λe=>x2 (e▸ha),λe=>x2 (e▸hb)⟩
 ·intro hp y o f e;have:=(h.rg hp y o f e).2.2;exact⟨λe=>this (e▸ha),λe=>this (e▸hb)⟩
 ·intro _ y o f e;cases e;exact⟨λe=>x3 (e▸ha),λe=>x3 (e▸hb)⟩
theorem Am.more (h:Am w gh gm X x)(hX:∀y,X' y→X y∨w.heap.size≤y):Am w gh gm X' x:=by obtain⟨R,h1,m,ob,oo,oc,nb,no,nc,ra,rl,rc,sb,so,sc,h2⟩:=h;exact⟨R,h1,m,ob,oo,oc,nb,no,nc,ra,rl,rc,sb,so,sc,h2.more hX⟩
theorem Am.but (h:Am w gh gm X x)(hG:w.grownBy w' (some g))(hg:X g)(n1:g≠gh)(n2:g≠gm):Am w' gh gm X x:=by obtain⟨R,h1,m,ob,oo,oc,nb,no,nc,ra,rl,rc,sb,so,sc,h2⟩:=h;exact⟨R,h1,m,ob,oo,oc,nb,no,nc,ra,rl,rc,sb,so,sc,h2.but hG hg n1 n2⟩
theorem Am.Mv (h:Am w gh gm X x)(hG:eE a b w w')(ha:X a)(hb:X b)(n1:gh≠a∧gh≠b)(n2:gm≠a∧gm≠b):Am w' gh gm X x:=by obtain⟨R,h1,m,ob,oo,oc,nb,no,nc,ra,rl,rc,sb,so,sc,h2⟩:=h;exact⟨R,h1,m,ob,oo,oc,nb,no,nc,ra,rl,rc,sb,so,sc,h2.Mv hG ha hb n1 n2⟩
theorem Am.later (h:Am w gh gm X x)(hb:Below w.heap.size w w'):Am w' gh gm X x:=by obtain⟨R,h1,m,ob,oo,oc,nb,no,nc,ra,rl,rc,sb,so,sc,h2⟩:=h;exact⟨R,h1,m,ob,oo,oc,nb,no,nc,ra,rl,rc,sb,so,sc,h2.later hb⟩
theorem Am.lt (h:Am w gh gm X x):gh<w.heap.size∧gm<w.heap.size∧gh≠gm:=by obtain⟨R,h1,m,ob,oo,oc,nb,no,nc,ra,rl,rc,sb,so,sc,h2⟩:=h;exact⟨h2.lt,h2.mx.lt,h2.hm⟩
theorem Am.of (h:RN w gh gm X x m ob oo oc nb no nc ra rl rc sb so sc):Am w gh gm X x:=⟨x.R,λ_=>rfl,m,ob,oo,oc,nb,no,nc,ra,rl,rc,sb,so,sc,h⟩
end
def ZD (w w':aw)(gh gm:Nat)(X:Nat→Prop)(e:Ending)(er:Nat)(y:NS)(out:aO):Prop:=
 ∃v q,e= .returned (.tuple #[v,.int .i64 (er:Int)])∧eE gh gm w w'∧Am w' gh gm X y∧w'.ownsRow w.heap.size 5 1 v q ((if er=0 then out else[]).map bv)
theorem ZE (x:NS)(R:aO)(h:x.st≠9→R=x.R):(⟨x.M,x.own,x.once,R,x.S,x.bP,x.st⟩:NS)=x∨x.st=9:=by
 by_cases h9:x.st=9
 ·exact .inr h9
 ·left
  rw[h h9]
section
variable (gh gm:Nat) (X:Nat→Prop) (x:NS) (ba:bW) (lb cb:Nat) (b:aO) (w:aw)
theorem aek (hR:Am w gh gm X x)(hX:∀y,X y→y<w.heap.size)(hB:bj w ba lb b)(kX:ba=none→cb=0)(FN:lb≤800)(rf:lb≤cb)(m7:cb≤maxLen)(pW:0<lb→∀y o f,ba=some ⟨y,o,f⟩→y≠gh∧y≠gm):
  Calls prog 11 #[.pointer (some ⟨gh,0,none⟩),.slice ba lb cb] w λe w'=>ZD w w' gh gm X e x.dv (x.first b) (x.dV b):=by
 obtain⟨R,h1,m,ob,oo,oc,nb,no,nc,ra,rl,rc,sb,so,sc,h2⟩:=hR;refine(FF gh gm X _ m ob oo oc nb no nc ra rl rc sb so sc ba lb cb b w h2 hX hB kX FN rf m7 pW).mono ?_;rintro e w' ⟨v,he,hG,hN,q,ho⟩;refine⟨v,q,he,hG,?_,ho⟩
 rcases ZE x R h1 with e1|e1
 ·rw[e1] at hN;exact⟨_,λ_=>rfl,hN⟩
 ·have e2:NS.dv x=10:=by unfold NS.dv;rw[if_neg (λh=>by omega)]
  have e3:NS.first x b=x.gI:=by unfold NS.first;rw[e2];rfl
  have e4:NS.first ⟨x.M,x.own,x.once,R,x.S,x.bP,x.st⟩ b=⟨x.M,x.own,x.once,R,x.S,x.bP,9⟩:=by unfold NS.first;rw[show NS.dv ⟨x.M,x.own,x.once,R,x.S,x.bP,x.st⟩=10 from e2];rfl
  rw[e4] at hN;rw[e3];exact⟨R,λh=>absurd rfl h,hN⟩
theorem ZF (hR:Am w gh gm X x)(hr:x.bP=false→x.st=1→x.R.length=32)(hX:∀y,X y→y<w.heap.size)(hB:bj w ba lb b)(kX:ba=none→cb=0)(FN:lb≤800)(rf:lb≤cb)(m7:cb≤maxLen)(pW:0<lb→∀y o f,ba=some ⟨y,o,f⟩→y≠gh∧y≠gm):
  Calls prog 15 #[.pointer (some ⟨gh,0,none⟩),.slice ba lb cb] w λe w'=>ZD w w' gh gm X e x.dn (x.second b) (x.dm b):=by
 obtain⟨R,h1,m,ob,oo,oc,nb,no,nc,ra,rl,rc,sb,so,sc,h2⟩:=hR;refine(EM gh gm X _ m ob oo oc nb no nc ra rl rc sb so sc ba lb cb b w h2 (λk1 k2=>?_) hX hB kX FN rf m7 pW).mono ?_
 ·show R.length=32;rw[h1 (λe=>by have:x.st=1:=k2;omega)];exact hr k1 k2
 rintro e w' ⟨v,he,hG,hN,q,ho⟩
 rcases ZE x R h1 with e1|e1
 ·rw[e1] at he hN ho;exact⟨v,q,he,hG,⟨_,λ_=>rfl,hN⟩,ho⟩
 ·have e2:NS.dn x=10:=by unfold NS.dn;rw[if_neg (λh=>by omega)]
  have Sl:NS.dn ⟨x.M,x.own,x.once,R,x.S,x.bP,x.st⟩=10:=by unfold NS.dn;rw[if_neg (λh=>by have:x.st=1:=h.2;omega)]
  have e3:NS.second x b=x.gI:=by unfold NS.second;rw[e2];rfl
  have e4:NS.second ⟨x.M,x.own,x.once,R,x.S,x.bP,x.st⟩ b=⟨x.M,x.own,x.once,R,x.S,x.bP,9⟩:=by unfold NS.second;rw[Sl];rfl
  rw[e4] at hN;rw[Sl] at he ho;rw[if_neg (by decide)] at ho;unfold ZD;rw[e3,e2,if_neg (by decide)];exact⟨v,q,he,hG,⟨R,λh=>absurd rfl h,hN⟩,ho⟩
theorem aja (hR:Am w gh gm X x)(hX:∀y,X y→y<w.heap.size)(hB:bj w ba lb b)(kX:ba=none→cb=0)(FN:lb≤800)(rf:lb≤cb)(m7:cb≤maxLen)(pW:0<lb→∀y o f,ba=some ⟨y,o,f⟩→y≠gh∧y≠gm):
  Calls prog 13 #[.pointer (some ⟨gh,0,none⟩),.slice ba lb cb] w λe w'=>ZD w w' gh gm X e (x.dD b) (x.mh b) (x.jI b):=by
 obtain⟨R,h1,m,ob,oo,oc,nb,no,nc,ra,rl,rc,sb,so,sc,h2⟩:=hR;refine(IH gh gm X _ m ob oo oc nb no nc ra rl rc sb so sc ba lb cb b w h2 hX hB kX FN rf m7 pW).mono ?_;rintro e w' ⟨v,he,hG,hN,q,ho⟩
 rcases ZE x R h1 with e1|e1
 ·rw[e1] at he hN ho;exact⟨v,q,he,hG,hN,ho⟩
 ·have e2:NS.dD x b=10:=by unfold NS.dD;rw[if_neg (λh=>by omega)]
  have Sl:NS.dD ⟨x.M,x.own,x.once,R,x.S,x.bP,x.st⟩ b=10:=by unfold NS.dD;rw[if_neg (λh=>by have:x.st=0:=h.2;omega)]
  have e3:NS.mh x b=x.gI:=by unfold NS.mh;rw[e2];rfl
  have e4:NS.mh ⟨x.M,x.own,x.once,R,x.S,x.bP,x.st⟩ b=⟨x.M,x.own,x.once,R,x.S,x.bP,9⟩:=by unfold NS.mh;rw[Sl];rfl
  rw[e4] at hN;rw[Sl] at he ho;rw[if_neg (by decide)] at ho;unfold ZD;rw[e3,e2,if_neg (by decide)];obtain⟨R',_,h⟩:=hN;exact⟨v,q,he,hG,⟨R',λh=>absurd rfl h,h⟩,ho⟩
theorem ajb (hR:Am w gh gm X x)(hX:∀y,X y→y<w.heap.size)(hB:bj w ba lb b)(kX:ba=none→cb=0)(FN:lb≤800)(rf:lb≤cb)(m7:cb≤maxLen)(pW:0<lb→∀y o f,ba=some ⟨y,o,f⟩→y≠gh∧y≠gm):
  Calls prog 17 #[.pointer (some ⟨gh,0,none⟩),.slice ba lb cb] w λe w'=>ZD w w' gh gm X e (x.eJ b) (x.done b) (x.jo b):=by
 obtain⟨R,h1,m,ob,oo,oc,nb,no,nc,ra,rl,rc,sb,so,sc,h2⟩:=hR;refine(IG gh gm X _ m ob oo oc nb no nc ra rl rc sb so sc ba lb cb b w h2 hX hB kX FN rf m7 pW).mono ?_;rintro e w' ⟨v,he,hG,hN,q,ho⟩
 rcases ZE x R h1 with e1|e1
 ·rw[e1] at he hN ho;exact⟨v,q,he,hG,hN,ho⟩
 ·have e2:NS.eJ x b=10:=by unfold NS.eJ;rw[if_neg (λh=>by omega)]
  have Sl:NS.eJ ⟨x.M,x.own,x.once,R,x.S,x.bP,x.st⟩ b=10:=by unfold NS.eJ;rw[if_neg (λh=>by have:x.st=1:=h.2;omega)]
  have e3:NS.done x b=x.gI:=by unfold NS.done;rw[e2];rfl
  have e4:NS.done ⟨x.M,x.own,x.once,R,x.S,x.bP,x.st⟩ b=⟨x.M,x.own,x.once,R,x.S,x.bP,9⟩:=by unfold NS.done;rw[Sl];rfl
  rw[e4] at hN;rw[Sl] at he ho;rw[if_neg (by decide)] at ho;unfold ZD;rw[e3,e2,if_neg (by decide)];obtain⟨R',_,h⟩:=hN;exact⟨v,q,he,hG,⟨R',λh=>absurd rfl h,h⟩,ho⟩
end
def Ab (x:NS):Prop:=x.bP=false→x.st=1→x.R.length=32
theorem Ou (x:NS)(b:aO):Ab (x.first b):=by
 by_cases h:x.dv=0
 ·have h2:x.bP=true:=by
   unfold NS.dv at h
   by_cases h3:x.bP=true∧x.st=0
   ·exact h3.1
   ·rw[if_neg h3] at h;cases h
  unfold Ab NS.first;rw[if_pos h];intro h1 _;rw[show x.bP=false from h1] at h2;cases h2
 ·unfold Ab NS.first;rw[if_neg h];intro _ h;exact absurd (show(9:Nat)=1 from h) (by decide)
theorem RR (x:NS)(b:aO):Ab (x.mh b):=by
 by_cases h:x.dD b=0
 ·have h2:96≤b.length:=by
   unfold NS.dD at h
   by_cases h3:x.bP=false∧x.st=0
   ·rw[if_pos h3] at h
    by_cases h4:b.length<96
    ·rw[if_pos h4] at h;cases h
    ·omega
   ·rw[if_neg h3] at h;cases h
  unfold Ab NS.mh;rw[if_pos h];intro _ _;show(NS.hR b).length=32;unfold NS.hR;rw[List.length_take];omega
 ·unfold Ab NS.mh;rw[if_neg h];intro _ h;exact absurd (show(9:Nat)=1 from h) (by decide)
theorem LJ (x:NS)(b:aO):Ab (x.second b):=by
 unfold Ab NS.second;split
 ·intro _ h;exact absurd (show(2:Nat)=1 from h) (by decide)
 ·intro _ h;exact absurd (show(9:Nat)=1 from h) (by decide)
theorem RS (x:NS)(b:aO):Ab (x.done b):=by
 unfold Ab NS.done;split
 ·intro _ h;exact absurd (show(2:Nat)=1 from h) (by decide)
 ·intro _ h;exact absurd (show(9:Nat)=1 from h) (by decide)
theorem abf (x:NS)(b:aO):(x.dV b).length≤b.length+96:=by unfold NS.dV MS.out;have h1:=eI x.once;have h2:=eI x.own;have h3:=rH (NS.f1 x).K (NS.f1 x).has (NS.f1 x).n (NS.f1 x).H (bN x.own);have h4:=rH (NS.f2 x).K (NS.f2 x).has (NS.f2 x).n (NS.f2 x).H b;rw[List.length_append,List.length_append];omega
theorem RT (x:NS)(b:aO):(x.dm b).length≤b.length+96:=by unfold NS.dm MS.out;have h1:=eI x.once;have h4:=rH (NS.s1 x).K (NS.s1 x).has (NS.s1 x).n (NS.s1 x).H b;rw[List.length_append];omega
theorem ZG (x:NS)(b:aO):(x.jI b).length≤b.length+96:=by unfold NS.jI MS.text;have h4:=GZ (NS.h2 x b).K (NS.h2 x b).has (NS.h2 x b).n (NS.h2 x b).H (b.drop 80);rw[List.length_drop] at h4;omega
theorem ZH (x:NS)(b:aO):(x.jo b).length≤b.length+96:=by unfold NS.jo MS.text;have h4:=GZ (NS.d1 x b).K (NS.d1 x b).has (NS.d1 x b).n (NS.d1 x b).H (b.drop 32);rw[List.length_drop] at h4;omega
structure yX where
 ga:Nat
 gb:Nat
 ha:Nat
 ma:Nat
 hb:Nat
 mb:Nat
def yX.swap (s:yX):yX:=⟨s.gb,s.ga,s.hb,s.mb,s.ha,s.ma⟩
def yX.off (s:yX)(y:Nat):Prop:=y≠s.ga∧y≠s.gb∧y≠s.ha∧y≠s.ma∧y≠s.hb∧y≠s.mb
def yX.xa (s:yX)(z:Nat):Prop:=z=s.ga∨z=s.gb∨z=s.hb∨z=s.mb
structure Tw (w W:aw)(s:yX)(x x0 y:NS):Prop where
 aY:Below w.heap.size w W
 lo:∀z,¬s.off z→w.heap.size≤z
 ne:(s.ga≠s.gb∧s.ga≠s.ha∧s.ga≠s.ma∧s.ga≠s.hb∧s.ga≠s.mb)∧(s.gb≠s.ha∧s.gb≠s.ma∧s.gb≠s.hb∧s.gb≠s.mb)∧s.ha≠s.hb∧s.ha≠s.mb∧s.ma≠s.hb∧s.ma≠s.mb
 a:ju W s.ga x
 b:ju W s.gb y
 p:Am W s.ha s.ma s.xa x0
 q:Am W s.hb s.mb s.swap.xa y
 t:TT w
 rx:Ab x0
 ry:Ab y
theorem Wa {w w':aw}{g a b:Nat}{x:NS}(h:ju w g x)(hG:eE a b w w')(n1:g≠a)(n2:g≠b):ju w' g x:=by obtain⟨seen,h1,h2,h3,h4⟩:=h;exact⟨seen,⟨⟨eE.row h1.mi.row hG n1 n2,h1.mi.c,h1.mi.h,h1.mi.k⟩,h1.k4⟩,h2,h3,h4⟩
section
variable {w W W':aw} {s:yX} {x x0 y x':NS}
theorem yX.LK (s:yX)(z:Nat):s.swap.off z↔s.off z:=by unfold yX.off yX.swap;constructor<;>(rintro⟨h1,h2,h3,h4,h5,h6⟩;exact⟨h2,h1,h5,h6,h3,h4⟩)
theorem Tw.swap (D:Tw w W s x x y):Tw w W s.swap y y x:=by obtain⟨⟨n1,n2,n3,n4,n5⟩,⟨n6,n7,n8,n9⟩,n10,n11,n12,n13⟩:=D.ne;exact⟨D.aY,λz h=>D.lo z (λe=>h ((yX.LK s z).2 e)),⟨⟨λe=>n1 e.symm,n8,n9,n6,n7⟩,⟨n4,n5,n2,n3⟩,λe=>n10 e.symm,λe=>n12 e.symm,λe=>n11 e.symm,λe=>n13 e.symm⟩,D.b,D.a,D.q,D.p,D.t,D.ry,D.rx⟩
theorem Tw.later (D:Tw w W s x x0 y)(hb:Below W.heap.size W W'):Tw w W' s x x0 y:=
 ⟨D.aY.trans (hb.mono D.aY.size),D.lo,D.ne,D.a.later hb,D.b.later hb,D.p.later hb,D.q.later hb,D.t,D.rx,D.ry⟩
theorem Tw.tab (D:Tw w W s x x0 y):TT W:=D.t.later D.aY
theorem Tw.los (D:Tw w W s x x0 y):w.heap.size≤s.ga∧w.heap.size≤s.gb∧w.heap.size≤s.ha∧w.heap.size≤s.ma∧w.heap.size≤s.hb∧w.heap.size≤s.mb:=
 ⟨D.lo _ (λh=>h.1 rfl),D.lo _ (λh=>h.2.1 rfl),D.lo _ (λh=>h.2.2.1 rfl),D.lo _ (λh=>h.2.2.2.1 rfl),D.lo _ (λh=>h.2.2.2.2.1 rfl),D.lo _ (λh=>h.2.2.2.2.2 rfl)⟩
theorem Tw.lts (D:Tw w W s x x0 y):s.ga<W.heap.size∧s.gb<W.heap.size∧s.ha<W.heap.size∧s.ma<W.heap.size∧s.hb<W.heap.size∧s.mb<W.heap.size:=
 ⟨D.a.lt,D.b.lt,D.p.lt.1,D.p.lt.2.1,D.q.lt.1,D.q.lt.2.1⟩
theorem Tw.ka (D:Tw w W s x x0 y):E7 s.ga:=D.t.new D.los.1
theorem Tw.hX (D:Tw w W s x x0 y):∀z,s.xa z→z<W.heap.size:=by obtain⟨l1,l2,l3,l4,l5,l6⟩:=D.lts;rintro z (h|h|h|h)<;>omega
theorem yX.new (D:Tw w W s x x0 y){z:Nat}(hz:W.heap.size≤z∨z<w.heap.size):s.off z:=by obtain⟨l1,l2,l3,l4,l5,l6⟩:=D.lts;obtain⟨k1,k2,k3,k4,k5,k6⟩:=D.los;unfold yX.off;omega
theorem Tw.aa2 (D:Tw w W s x x0 y)(hG:W.grownBy W' (some s.ga))(h:ju W' s.ga x'):Tw w W' s x' x0 y:=by obtain⟨⟨n1,n2,n3,n4,n5⟩,_⟩:=D.ne;exact⟨dI D.aY hG D.los.1,D.lo,D.ne,h,D.b.but hG (λe=>n1 e.symm),D.p.but hG (.inl rfl) n2 n3,D.q.but hG (.inr (.inl rfl)) n4 n5,D.t,D.rx,D.ry⟩
theorem Tw.PL (D:Tw w W s x x0 y)(hG:eE s.ha s.ma W W')(h:Am W' s.ha s.ma s.xa x)(hr:Ab x):Tw w W' s x x y:=by obtain⟨⟨n1,n2,n3,n4,n5⟩,⟨n6,n7,n8,n9⟩,n10,n11,n12,n13⟩:=D.ne;obtain⟨k1,k2,k3,k4,k5,k6⟩:=D.los;exact⟨eE.aY D.aY hG k3 k4 D.aY.size,D.lo,D.ne,Wa D.a hG n2 n3,Wa D.b hG n6 n7,h,D.q.Mv hG (.inr (.inr (.inl rfl))) (.inr (.inr (.inr rfl))) ⟨λe=>n10 e.symm,λe=>n12 e.symm⟩ ⟨λe=>n11 e.symm,λe=>n13 e.symm⟩,D.t,hr,D.ry⟩
end
structure Dr (W:aw)(s:yX)(a:bW)(l c:Nat)(D:aO)(n:Nat):Prop where
 b:bj W a l D
 nl:a=none→c=0
 lc:l≤c
 cm:c≤maxLen
 ln:l≤n
 ap:0<l→∀y o f,a=some ⟨y,o,f⟩→s.off y
section
variable {w W W':aw} {s:yX} {x x0 y x':NS} {a:bW} {l c n n':Nat} {D:aO}
theorem Dr.lt (h:Dr W s a l c D n):0<l→∀y o f,a=some ⟨y,o,f⟩→y<W.heap.size:=λh0 y o f e=>by
 have hb:=h.b;obtain⟨b',o',e',_⟩:=hb.at_ 0 h0;rw[e'] at e hb;cases e
 exact hb.lt h0
theorem Dr.later (h:Dr W s a l c D n)(hb:Below W.heap.size W W'):Dr W' s a l c D n:=⟨h.b.later hb,h.nl,h.lc,h.cm,h.ln,h.ap⟩
theorem Dr.aa2 (h:Dr W s a l c D n)(hG:W.grownBy W' (some s.ga)):Dr W' s a l c D n:=⟨h.b.Cu hG (λh0 y o f e=>(h.ap h0 y o f e).1),h.nl,h.lc,h.cm,h.ln,h.ap⟩
theorem Dr.PL (h:Dr W s a l c D n)(hG:eE s.ha s.ma W W'):Dr W' s a l c D n:=⟨eE.nw h.b hG (λh0 y o f e=>⟨(h.ap h0 y o f e).2.2.1,(h.ap h0 y o f e).2.2.2.1⟩),h.nl,h.lc,h.cm,h.ln,h.ap⟩
theorem Dr.swap (h:Dr W s a l c D n):Dr W s.swap a l c D n:=⟨h.b,h.nl,h.lc,h.cm,h.ln,λh0 y o f e=>(yX.LK s y).2 (h.ap h0 y o f e)⟩
theorem Dr.mono (h:Dr W s a l c D n)(hn:n≤n'):Dr W s a l c D n':=⟨h.b,h.nl,h.lc,h.cm,kx h.ln hn,h.ap⟩
def TD (w W:aw)(s:yX)(a:bW)(l c n:Nat):Prop:=∃x y L,Tw w W s x x y∧Dr W s a l c L n
theorem TD.swap (h:TD w W s a l c n):TD w W s.swap a l c n:=by obtain⟨x,y,L,h1,h2⟩:=h;exact⟨y,x,L,h1.swap,h2.swap⟩
end
def TM (w W:aw)(s:yX)(am:bW)(lm cm:Nat)(an:bW)(ln cn:Nat)(a:bW)(l c n:Nat):Prop:=
 ∃x y L O,Tw w W s x x y∧Dr W s a l c L n∧Dr W s am lm cm O (n+96)∧bj W an ln O
section
variable {w W W1 W2:aw} {s:yX} {x x0 y x':NS} {a ad am:bW} {l c n ld cd lm cm er:Nat} {L B O out:aO} {e:Ending}
theorem Tw.goA (D:Tw w W s x x y)(hl:Dr W s a l c L n)(hd:Dr W s ad ld cd B n)(hE:Jm W W1 s.ga e er x' out)(hle:out.length≤B.length+96):
  ∃am lm cm,e= .returned (.tuple #[.slice am lm cm,.int .i64 (er:Int)])∧Tw w W1 s x' x y∧Dr W1 s a l c L n∧Dr W1 s ad ld cd B n∧Dr W1 s am lm cm (if er=0 then out else[]) (n+96):=by
 unfold Jm at hE;obtain⟨v,q,rfl,hG,hI,ho⟩:=hE;obtain⟨am,cm,rfl,hB,h1,h2,h3,h4,h5,h6⟩:=xm ho;have kW:=hd.b.1;have MO:=hd.ln;have hx:q≤n+96:=by
  rw[←h6];split
  ·omega
  ·exact Nat.zero_le _
 exact⟨am,q,cm,rfl,D.aa2 hG hI,hl.aa2 hG,hd.aa2 hG,hB,h3,h1,h2,hx,λh0 y o f e=>yX.new D (.inl (h5 y o f e))⟩
theorem Tw.goB (D:Tw w W1 s x' x y)(hl:Dr W1 s a l c L n)(hm:Dr W1 s am lm cm O (n+96))(hE:ZD W1 W2 s.ha s.ma s.xa e er x' out)(hO:O=if er=0 then out else[])(hr:Ab x'):
  ∃an ln cn,e= .returned (.tuple #[.slice an ln cn,.int .i64 (er:Int)])∧TM w W2 s am lm cm an ln cn a l c n:=by
 unfold ZD at hE;obtain⟨v,q,rfl,hG,hN,ho⟩:=hE;obtain⟨an,cn,rfl,hB,h1,h2,h3,h4,h5,h6⟩:=xm ho;exact⟨an,q,cn,rfl,x',y,L,O,D.PL hG hN hr,hl.PL hG,hm.PL hG,hO▸hB⟩
end
end Go.Proofs.YtkdpblbhcfhagaaGreatDoor
