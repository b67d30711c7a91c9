import Derived.Test.YtkdpblbhcfhagaaGreatDoorQaf
namespace Go.Proofs.YtkdpblbhcfhagaaGreatDoor
open Go.Proofs.Tryz
open _root_.Nat renaming le_refl → di, le_trans → kx, lt_of_lt_of_le → tV
open Go.RowKit.Below renaming refl → bZ, heap_alloc → jE
open Go.World renaming size_alloc → fx
open _root_.Array renaming getElem?_eq_some_iff → gD
open Go renaming undef → ag, World → aw, heap_alloc_new → eC
open _root_.List renaming replicate → cz, not_mem_nil → nj, mem_cons → mg, take_of_length_le → su
open Go.Exit renaming inBlock → nu
set_option maxHeartbeats 64000000
set_option linter.unusedVariables false
set_option maxRecDepth 100000
open Go.RowKit
theorem aj {p:Prop}(h:p):ae p:=h
theorem Kw {w:aw}{bc oc p:Nat}{b:aO}(h:bj w (some ⟨bc,oc,none⟩) (p+16) b):bj w (some ⟨bc,oc+p,none⟩) 16 (b.drop p):=by have hl:=h.1;have:=h.sub (n:=p) (q:=p+16) (by omega) (by omega);rw[su (by simp;omega),Nat.add_sub_cancel_left] at this;exact this
theorem Ub (key aq:aO)(a:bW)(la ca:Nat)(ad:aO)(c:bW)(lc cc:Nat)(b:aO)(w:aw)(hk:key.length=32)(hn:aq.length=12)
  (hA:bj w a la ad) (Co:a=none→ca=0) (EU:la≤1000) (GY:la≤ca) (Hy:ca≤maxLen) (hC:bj w c lc b) (O0:c=none→cc=0) (ig:lc≤1100) (kZ:lc≤cc) (gB:cc≤maxLen):
  Calls prog 122 #[.agg (key.map bv).toArray,.agg (aq.map bv).toArray,.slice a la ca,.slice c lc cc] w λe w'=>Below w.heap.size w w'∧
   ((po key aq ad b∧∃a' cK,e= .returned (.tuple #[.slice a' (lc-16) cK,.int .i64 0])∧bj w' a' (lc-16) (jx key aq b)∧w'.ownsRow w.heap.size 5 1 (.slice a' (lc-16) cK) (lc-16) ((jx key aq b).map bv))∨(¬po key aq ad b∧e= .returned (.tuple #[.slice none 0 0,.int .i64 3]))):=by
 have kW:=hC.1;have HA:ae (bj w a la ad):=hA;have HC:ae (bj w c lc b):=hC;obtain⟨s,hs⟩:∃s,iX s key aq:=⟨_,rfl,hk,hn⟩;have IK:ae ((prog.info? 24).map (·.size)=some (key.map bv).toArray.size):=Dy key hk;have IN:ae ((prog.info? 158).map (·.size)=some (aq.map bv).toArray.size):=Pe aq hn;have Ae:=hs.len;have IS:ae ((prog.info? 178).map (·.size)=some (s.map bv).toArray.size):=wC s hs.len;obtain⟨n1,n0⟩:=qt w 24 key aq 158;have QQ:ae (dz _ w.heap.size 24 key):=n0;have QR:ae (dz _ (w.heap.size+1) 158 aq):=n1;have e44:(prog.info? 178).map (·.size)=some 44:=by kernel_rfl
 have xA:=cJ ((w.alloc (.cells (key.map bv).toArray 24)).alloc (.cells (aq.map bv).toArray 158)) 178 s 44 hs.len e44;rw[fx,fx] at xA;have uo:ae (SQ w s (((w.alloc (.cells (key.map bv).toArray 24)).alloc (.cells (aq.map bv).toArray 158)).alloc (.cells (s.map bv).toArray 178))):=SQ.new w s _ _;clear hA hC n1 n0 e44
 by_cases dN:lc<16
 ·have HN:ae (¬po key aq ad b):=λh=>by have:=h.1;omega
  have i1:(lc:Int)-16<0:=by omega
  go_enter func122,ntmps122
  go_wp2_with (first|refine wpList_load_row rfl 24 _ rfl w.heap.size rfl 24 _ (0,0) _ QQ.o underlying24 rfl IK.out ?_|refine wpList_load_row rfl 158 _ rfl (w.heap.size+1) rfl 158 _ (0,0) _ QR.o underlying158 rfl IN.out ?_|refine sF key aq s hs rfl (.tmp 13) (.tmp 14) rfl rfl rfl ?_)
  go_ret2
  exact⟨uo.o.aY,.inr ⟨HN.o,rfl⟩⟩
 ·obtain⟨p,rfl⟩:∃p,lc=p+16:=⟨lc-16,by omega⟩;have i1:((p+16:Nat):Int)-16=(p:Int):=by omega
  have i2:¬(p:Int)<0:=by omega
  obtain⟨bc,oc,rfl⟩:∃bc oc,c=some ⟨bc,oc,none⟩:=by obtain⟨b',o',e,_⟩:=HC.o.at_ 0 (by omega);exact⟨b',o',e⟩
  have yQ:=HC.o.lt (by omega)
  go_enter func122,ntmps122
  go_wp2_with (first|refine wpList_load_row rfl 24 _ rfl w.heap.size rfl 24 _ (0,0) _ QQ.o underlying24 rfl IK.out ?_|refine wpList_load_row rfl 158 _ rfl (w.heap.size+1) rfl 158 _ (0,0) _ QR.o underlying158 rfl IN.out ?_|refine sF key aq s hs rfl (.tmp 13) (.tmp 14) rfl rfl rfl ?_)
  clear xA QQ QR;refine bY (P:=Code.wp prog _ _ _) (R:=λW=>ae (SQ w s W)) _ uo ?_;intro W0 ja;clear uo;obtain⟨T,hT⟩:=aW (jl key aq ad (b.take p));have sS:T.length=16:=by rw[←hT,jX]
  have Sq:ae (jl key aq ad (b.take p)=T):=hT;have TL:(p:Int)≤(cc:Int):=by omega
  have hcn:¬cc=p:=by omega
  have xr:(p:Int)≤(p:Int)+16:=by omega
  have agW:cc≤9223372036854775807:=by unfold maxLen at gB;exact gB
  obtain⟨W,hW⟩:=aW (W0.drew);have cL:Below W0.heap.size W0 W:=by rw[←hW];exact gl
  have pP:ae (SQ w s W):=ja.out.later (cL.mono ja.out.size);have MY:ae (W0.drew=W):=hW;clear hW cL ja hT i1;refine rJ (G:=bM) (by kernel_rfl) bM.refl bM.trans (by kernel_rfl) [(0,true),(1,true),(2,true),(3,true),(4,true)] 3 ((Array.replicate 8 false).mapIdx λi _=>i<5) rfl (by kernel_rfl) ?_;intro KL Uc;rw[MY.out];refine aa rfl (by rfl) (v:=.agg (s.map bv).toArray) (λw' hw'=>ar 178 _ rfl (w.heap.size+1+1) rfl 178 _ (0,0) _ (pP.o.s.later hw') underlying178 rfl IS.out) ?_;go_simp
  iterate 4 (refine aa rfl (by rfl) (v:=?_) ?_ ?_;rotate_left;(intro w' hw';clear hw';go_simp;with_reducible rfl);go_simp)
  refine Uc.out _ _ ?_;clear Uc;refine Qc (i:=5) (j:=6) (by kernel_rfl) rfl (by rfl) rfl (by rfl) ?_ ?_
  ·refine bf (f:=138) (args:=#[.agg (s.map bv).toArray,.slice a la ca,.slice (some ⟨bc,oc,none⟩) p cc]) (by go_simp) ?_;refine(Dz s key aq hs a la ca ad (some ⟨bc,oc,none⟩) p cc (b.take p) W (HA.o.later pP.o.aY) Co ((HC.o.below yQ pP.o.aY).cut (by omega)) (by intro e;cases e) (by omega) (by omega)).mono ?_;rintro e w2 ⟨rfl,cM⟩;refine⟨_,rfl,cM,?_⟩;rw[Sq.o];have xA:=cJ w2 179 T 16 sS (by kernel_rfl);obtain⟨W4,fj⟩:=aW (w2.alloc (.cells (T.map bv).toArray 179));have js:Below W.heap.size W W4:=by rw[←fj];exact cM.alloc cM.size _
   have lO:ae (bj W4 (some ⟨w2.heap.size,0,none⟩) 16 T):=by rw[←fj];exact(dz.new w2 179 T).nw 16 sS
   have vQ:ae (SQ w s W4):=pP.o.later (js.mono pP.o.size);rw[fj] at xA;clear cM js fj pP;refine eK bM.refl bM.trans (by kernel_rfl) [(6,false),(7,false)] rfl (by kernel_rfl) ?_;intro KM wD;go_simp
   refine fZ rfl (by rfl) (v:=.pointer (some ⟨w2.heap.size,0,none⟩)) (w':=w2.alloc (.cells ((cz 16 (0:UInt8)).map bv).toArray 179)) (by go_simp;rfl) eF ?_;go_simp
   have eO:=xA ((cz 16 (0:UInt8)).map bv).toArray (by simp);refine bp rfl (by rfl) (w':=W4) (by go_simp) (by kernel_rfl) ?_;clear xA eO;go_simp
   refine az wD ?_;generalize w2.heap.size=g at lO⊢
   go_wp2
   obtain⟨W,hW⟩:=aW (W4.drew);have cL:Below W4.heap.size W4 W:=by rw[←hW];exact gl
   have pP:ae (SQ w s W):=vQ.o.later (cL.mono vQ.o.size);have L1:ae (bj W (some ⟨g,0,none⟩) 16 T):=lO.o.later cL;have L3:ae (bj W (some ⟨bc,oc+p,none⟩) 16 (b.drop p)):=Kw (HC.o.below yQ pP.o.aY);have MY:ae (W4.drew=W):=hW;clear hW cL vQ lO;refine ah (G:=bM) (by kernel_rfl) bM.refl bM.trans (by kernel_rfl) [(0,true),(1,true),(2,true),(3,true),(4,false),(5,true)] rfl (by kernel_rfl) ?_;intro KK cA;rw[MY.out]
   iterate 4 (refine aa rfl (by rfl) (v:=?_) ?_ ?_;rotate_left;(intro w' hw';clear hw';go_simp;with_reducible rfl);go_simp)
   refine aU (f:=142) (args:=#[.slice (some ⟨g,0,none⟩) 16 16,.slice (some ⟨bc,oc+p,none⟩) 16 (cc-p)]) rfl (by rfl) (by go_simp) ?_;refine(Jz _ _ 16 16 16 (cc-p) T (b.drop p) W L1.o L3.o).mono ?_;rintro e w5 ⟨rfl,rfl⟩;refine⟨_,rfl,bM.refl _,?_⟩
   by_cases hT:T=b.drop p
   ·have Bo:decide (T=b.drop p)=true:=by rw[hT];simp
    rw[Bo];clear Bo;have WI:ae (po key aq ad b):=by refine⟨by omega,?_⟩;rw[kW,Nat.add_sub_cancel,Sq.o,hT]
    go_simp
    iterate 1 (refine aa rfl (by rfl) (v:=?_) ?_ ?_;rotate_left;(intro w' hw';clear hw';go_simp;with_reducible rfl);go_simp)
    refine az cA ?_;clear hT L1 L3;obtain⟨W6,My⟩:=aW (w5.drew);have cL:Below w5.heap.size w5 W6:=by rw[←My];exact gl
    have Bf:ae (SQ w s W6):=pP.o.later (cL.mono pP.o.size);have O6:ae (bj W6 (some ⟨bc,oc,none⟩) p (b.take p)):=(HC.o.below yQ Bf.o.aY).cut (by omega);have acj:ae (w5.drew=W6):=My;clear My cL pP
    go_wp2
    refine ah (G:=bM) (by kernel_rfl) bM.refl bM.trans (by kernel_rfl) [(0,true),(1,true),(2,true),(3,true),(4,false),(5,true),(6,true)] rfl (by kernel_rfl) ?_;intro KK2 ye;rw[acj.out];refine aa rfl (by rfl) (v:=.agg (s.map bv).toArray) (λw' hw'=>ar 178 _ rfl (w.heap.size+1+1) rfl 178 _ (0,0) _ (Bf.o.s.later hw') underlying178 rfl IS.out) ?_;go_simp
    iterate 3 (refine aa rfl (by rfl) (v:=?_) ?_ ?_;rotate_left;(intro w' hw';clear hw';go_simp;with_reducible rfl);go_simp)
    refine aU (f:=137) (args:=#[.agg (s.map bv).toArray,.slice (some ⟨bc,oc,none⟩) p cc]) rfl (by rfl) (by go_simp) ?_;refine(Dw s key aq hs (some ⟨bc,oc,none⟩) p cc (b.take p) W6 O6.o (by omega) (by omega) gB).mono ?_;rintro e w7 ⟨v7,rfl,yi,nT⟩;refine⟨_,rfl,yi,?_⟩;obtain⟨a7,c7,rfl,yj,_,_,_⟩:=bq nT;have Fq:ae (w7.ownsRow w.heap.size 5 1 (.slice a7 p c7) p ((jx key aq b).map bv)):=by unfold jx;rw[kW,Nat.add_sub_cancel];exact bQ nT Bf.o.aY.size
    have Cn:ae (bj w7 a7 p (jx key aq b)):=by unfold jx;rw[kW,Nat.add_sub_cancel];exact yj
    have J3:ae (Below w.heap.size w w7):=Bf.o.aY.trans (yi.mono Bf.o.aY.size);clear nT yj yi Bf O6;go_simp
    iterate 2 (refine aa rfl (by rfl) (v:=?_) ?_ ?_;rotate_left;(intro w' hw';clear hw';go_simp;with_reducible rfl);go_simp)
    refine az ye ?_
    go_wp2
    go_ret2
    exact⟨J3.o,.inl ⟨WI.o,a7,c7,rfl,Cn.o,Fq.o⟩⟩
   ·have Bo:decide (T=b.drop p)=false:=by simp[hT]
    rw[Bo];clear Bo;have HNo:ae (¬po key aq ad b):=by rintro⟨_,h⟩;rw[kW,Nat.add_sub_cancel,Sq.o] at h;exact hT h.symm
    go_simp
    iterate 1 (refine aa rfl (by rfl) (v:=?_) ?_ ?_;rotate_left;(intro w' hw';clear hw';go_simp;with_reducible rfl);go_simp)
    refine az cA ?_;clear hT L1 L3
    go_wp2
    go_ret2
    exact⟨pP.o.aY,.inr ⟨HNo.o,rfl⟩⟩
  ·have G6:=dz.new W 179 (cz 16 (0:UInt8));obtain⟨W1,fg⟩:=aW (W.alloc (.cells ((cz 16 (0:UInt8)).map bv).toArray 179));rw[fg] at G6;have ck:Below W.heap.size W W1:=by rw[←fg];exact(bZ _ _).alloc (di _) _
   have gg:ae (SQ w s W1):=pP.o.later (ck.mono pP.o.size);have Ud:ae (dz W1 W.heap.size 179 (cz 16 (0:UInt8))):=G6;have jH:=pP.o.size;refine av (v:=.pointer (some ⟨W.heap.size,0,none⟩)) (w':=W1) (by rw[←fg];go_simp;rfl) ⟨ck,?_⟩;clear fg ck G6 pP;refine eK bM.refl bM.trans (by kernel_rfl) [(5,false),(7,false)] rfl (by kernel_rfl) ?_;intro KM wD;go_simp
   refine aU (f:=138) (args:=#[.agg (s.map bv).toArray,.slice a la ca,.slice (some ⟨bc,oc,none⟩) p cc]) rfl (by rfl) (by go_simp) ?_;refine(Dz s key aq hs a la ca ad (some ⟨bc,oc,none⟩) p cc (b.take p) W1 (HA.o.later gg.o.aY) Co ((HC.o.below yQ gg.o.aY).cut (by omega)) (by intro e;cases e) (by omega) (by omega)).mono ?_;rintro e w2 ⟨rfl,cM⟩;refine⟨_,rfl,cM,?_⟩;rw[Sq.o];have Jf:=Ud.o.later cM;have xA:=aL w2 W.heap.size _ _ (T.map bv) Jf (by simp[sS]) (bd T);have bh:=Jf.put T;have rq:=gg.o.later (cM.mono gg.o.size);have js:Below (w.heap.size+1+1+1) w2 (w2.setRow W.heap.size (T.map bv).toArray):=below_setRow (bZ _ _) jH _;have vQ:ae (SQ w s (w2.setRow W.heap.size (T.map bv).toArray)):=rq.later js;obtain⟨W4,fj⟩:=aW (w2.setRow W.heap.size (T.map bv).toArray);rw[fj] at xA bh vQ;have lO:ae (bj W4 (some ⟨W.heap.size,0,none⟩) 16 T):=bh.nw 16 sS;clear cM js fj Jf bh rq gg Ud jH;go_simp
   refine bp rfl (by rfl) (w':=W4) (by go_simp) (by kernel_rfl) ?_;clear xA;go_simp
   refine az wD ?_;generalize W.heap.size=g at lO⊢
   go_wp2
   obtain⟨V,hV⟩:=aW (W4.drew);have cL:Below W4.heap.size W4 V:=by rw[←hV];exact gl
   have pP:ae (SQ w s V):=vQ.o.later (cL.mono vQ.o.size);have L1:ae (bj V (some ⟨g,0,none⟩) 16 T):=lO.o.later cL;have L3:ae (bj V (some ⟨bc,oc+p,none⟩) 16 (b.drop p)):=Kw (HC.o.below yQ pP.o.aY);have MY:ae (W4.drew=V):=hV;clear hV cL vQ lO;refine ah (G:=bM) (by kernel_rfl) bM.refl bM.trans (by kernel_rfl) [(0,true),(1,true),(2,true),(3,true),(4,false),(5,true)] rfl (by kernel_rfl) ?_;intro KK cA;rw[MY.out]
   iterate 4 (refine aa rfl (by rfl) (v:=?_) ?_ ?_;rotate_left;(intro w' hw';clear hw';go_simp;with_reducible rfl);go_simp)
   refine aU (f:=142) (args:=#[.slice (some ⟨g,0,none⟩) 16 16,.slice (some ⟨bc,oc+p,none⟩) 16 (cc-p)]) rfl (by rfl) (by go_simp) ?_;refine(Jz _ _ 16 16 16 (cc-p) T (b.drop p) V L1.o L3.o).mono ?_;rintro e w5 ⟨rfl,rfl⟩;refine⟨_,rfl,bM.refl _,?_⟩
   by_cases hT:T=b.drop p
   ·have Bo:decide (T=b.drop p)=true:=by rw[hT];simp
    rw[Bo];clear Bo;have WI:ae (po key aq ad b):=by refine⟨by omega,?_⟩;rw[kW,Nat.add_sub_cancel,Sq.o,hT]
    go_simp
    iterate 1 (refine aa rfl (by rfl) (v:=?_) ?_ ?_;rotate_left;(intro w' hw';clear hw';go_simp;with_reducible rfl);go_simp)
    refine az cA ?_;clear hT L1 L3;obtain⟨W6,My⟩:=aW (w5.drew);have cL:Below w5.heap.size w5 W6:=by rw[←My];exact gl
    have Bf:ae (SQ w s W6):=pP.o.later (cL.mono pP.o.size);have O6:ae (bj W6 (some ⟨bc,oc,none⟩) p (b.take p)):=(HC.o.below yQ Bf.o.aY).cut (by omega);have acj:ae (w5.drew=W6):=My;clear My cL pP
    go_wp2
    refine ah (G:=bM) (by kernel_rfl) bM.refl bM.trans (by kernel_rfl) [(0,true),(1,true),(2,true),(3,true),(4,false),(5,true),(6,true)] rfl (by kernel_rfl) ?_;intro KK2 ye;rw[acj.out];refine aa rfl (by rfl) (v:=.agg (s.map bv).toArray) (λw' hw'=>ar 178 _ rfl (w.heap.size+1+1) rfl 178 _ (0,0) _ (Bf.o.s.later hw') underlying178 rfl IS.out) ?_;go_simp
    iterate 3 (refine aa rfl (by rfl) (v:=?_) ?_ ?_;rotate_left;(intro w' hw';clear hw';go_simp;with_reducible rfl);go_simp)
    refine aU (f:=137) (args:=#[.agg (s.map bv).toArray,.slice (some ⟨bc,oc,none⟩) p cc]) rfl (by rfl) (by go_simp) ?_;refine(Dw s key aq hs (some ⟨bc,oc,none⟩) p cc (b.take p) W6 O6.o (by omega) (by omega) gB).mono ?_;rintro e w7 ⟨v7,rfl,yi,nT⟩;refine⟨_,rfl,yi,?_⟩;obtain⟨a7,c7,rfl,yj,_,_,_⟩:=bq nT;have Fq:ae (w7.ownsRow w.heap.size 5 1 (.slice a7 p c7) p ((jx key aq b).map bv)):=by unfold jx;rw[kW,Nat.add_sub_cancel];exact bQ nT Bf.o.aY.size
    have Cn:ae (bj w7 a7 p (jx key aq b)):=by unfold jx;rw[kW,Nat.add_sub_cancel];exact yj
    have J3:ae (Below w.heap.size w w7):=Bf.o.aY.trans (yi.mono Bf.o.aY.size);clear nT yj yi Bf O6;go_simp
    iterate 2 (refine aa rfl (by rfl) (v:=?_) ?_ ?_;rotate_left;(intro w' hw';clear hw';go_simp;with_reducible rfl);go_simp)
    refine az ye ?_
    go_wp2
    go_ret2
    exact⟨J3.o,.inl ⟨WI.o,a7,c7,rfl,Cn.o,Fq.o⟩⟩
   ·have Bo:decide (T=b.drop p)=false:=by simp[hT]
    rw[Bo];clear Bo;have HNo:ae (¬po key aq ad b):=by rintro⟨_,h⟩;rw[kW,Nat.add_sub_cancel,Sq.o] at h;exact hT h.symm
    go_simp
    iterate 1 (refine aa rfl (by rfl) (v:=?_) ?_ ?_;rotate_left;(intro w' hw';clear hw';go_simp;with_reducible rfl);go_simp)
    refine az cA ?_;clear hT L1 L3
    go_wp2
    go_ret2
    exact⟨pP.o.aY,.inr ⟨HNo.o,rfl⟩⟩
theorem ak {p:Prop}(h:p):ae p:=h
theorem tv (w:aw)(n:Nat)(h:n≤2000000):
  (Instr.makeSlice 22 (.int .i64 (n:Int)) (.int .i64 (n:Int))).run prog w= .ok (.slice (some ⟨w.heap.size,0,none⟩) n n) (w.alloc (.cells ((cz n (0:UInt8)).map bv).toArray 5)):=by
 obtain⟨i0,hi,uf,pH,uZ⟩:=info_parts Tryz.infoU8;have hr:=run_make (P:=prog) w 22 5 i0 (.int .u8 0) underlying22 hi uf .i64 .i64 (n:Int) (n:Int) (by omega) (by omega) (by rw[uZ];omega) (by omega);have e1:((n:Int)).toNat=n:=by omega
 rw[e1,pH,Nat.mul_one] at hr;have e:(madeCells (Value.int .u8 0).cells n).toList=cz n (.int .u8 0):=toList_madeCells_one _ _;have e2:madeCells (Value.int .u8 0).cells n=((cz n (0:UInt8)).map bv).toArray:=by rw[←Array.toList_inj,e];simp[bv]
 rw[e2] at hr;exact hr
theorem QS {w:aw}{bc oc p:Nat}{b:aO}(h:bj w (some ⟨bc,oc,none⟩) (p+16) b):bj w (some ⟨bc,oc+p,none⟩) 16 (b.drop p):=by have hl:=h.1;have:=h.sub (n:=p) (q:=p+16) (by omega) (by omega);rw[su (by simp;omega),Nat.add_sub_cancel_left] at this;exact this
theorem Kz (kb eh nb mj kc nc:Nat)(key aq:aO)(a:bW)(la ca:Nat)(ad:aO)(c:bW)(lc cc:Nat)(b:aO)(w:aw)(C8:32≤kc)(uj:12≤nc)(Hc:kc≤9223372036854775807)(Qq:nc≤9223372036854775807)
  (hK:bj w (some ⟨kb,eh,none⟩) 32 key) (hN:bj w (some ⟨nb,mj,none⟩) 12 aq) (hA:bj w a la ad) (Co:a=none→ca=0) (hC:bj w c lc b) (EU:la≤1000) (ig:lc≤1000) (kZ:lc≤cc) (m7:cc≤maxLen):
  Calls prog 93 #[.slice (some ⟨kb,eh,none⟩) 32 kc,.slice (some ⟨nb,mj,none⟩) 12 nc,.slice a la ca,.slice c lc cc] w λe w'=>∃v,e= .returned (.tuple #[v,.bool (fY key aq ad b)])∧Below w.heap.size w w'∧∃n,w'.ownsRow w.heap.size 5 1 v n ((if fY key aq ad b=true then jx key aq b else[]).map bv):=by
 have kW:=hC.1;have HK:ae (bj w (some ⟨kb,eh,none⟩) 32 key):=hK;have HN:ae (bj w (some ⟨nb,mj,none⟩) 12 aq):=hN;have HA:ae (bj w a la ad):=hA;have HC:ae (bj w c lc b):=hC;have yO:ae (∀W:aw,W.ownsRow w.heap.size 5 1 (.slice none 0 0) 0 (([]:aO).map bv)):=λW=>⟨rfl,.inl ⟨rfl,rfl⟩⟩;obtain⟨sb,BU⟩:=aW (fY key aq ad b);have HSb:ae (fY key aq ad b=sb):=BU;rw[BU];clear hK hN hA hC BU
 by_cases h16:16≤lc
 ·obtain⟨p,rfl⟩:∃p,lc=p+16:=⟨lc-16,by omega⟩;have i1:((p+16:Nat):Int)-16=(p:Int):=by omega
  have i2:¬(p:Int)<0:=by omega
  have i3:decide ((p:Int)<0)=false:=decide_eq_false i2;obtain⟨bc,oc,rfl⟩:∃bc oc,c=some ⟨bc,oc,none⟩:=by obtain⟨b',o',e,_⟩:=HC.o.at_ 0 (by omega);exact⟨b',o',e⟩
  have yQ:=HC.o.lt (by omega);obtain⟨T,hT⟩:=aW (jl key aq ad (b.take p));have sS:T.length=16:=by rw[←hT,jX]
  have Sq:ae (jl key aq ad (b.take p)=T):=hT;obtain⟨E,hE⟩:=aW (b.drop p);have QT:E.length=16:=by rw[←hE,List.length_drop];omega
  have HEE:ae (b.drop p=E):=hE;have HS:ae (decide (E=T)=sb):=by show _=_;rw[←HSb.o];unfold fY;rw[kW,Nat.add_sub_cancel,hE,hT,decide_eq_true (show 16≤p+16 by omega),Bool.true_and]
  have TL:(p:Int)≤(cc:Int):=by omega
  have asB:¬(cc:Int)<(p:Int):=by omega
  have hcn:¬cc=p:=by omega
  have xr:(p:Int)≤(p:Int)+16:=by omega
  have agW:cc≤9223372036854775807:=by unfold maxLen at m7;exact m7
  clear hT hE h16
  go_enter func93,ntmps93
  go_wp2
  obtain⟨W,hW⟩:=aW (w.drew);have cL:Below w.heap.size w W:=by rw[←hW];exact gl
  have oZ:ae (Below w.heap.size w W):=cL;have L3:ae (bj W (some ⟨bc,oc+p,none⟩) 16 E):=by have:=QS (HC.o.below yQ oZ.o);rw[HEE.o] at this;exact this
  have Qr:ae (bj W (some ⟨bc,oc,none⟩) p (b.take p)):=(HC.o.below yQ oZ.o).cut (by omega);have MY:ae (w.drew=W):=hW;have pH:(S E).size=16:=QT;have uZ:(S T).size=16:=sS;clear hW cL;refine ah (G:=bM) (by kernel_rfl) bM.refl bM.trans (by kernel_rfl) [(0,true),(1,true),(2,true),(3,true),(4,true),(5,true),(6,true),(7,true),(8,true),(9,true),(10,true),(11,true),(12,true),(13,false),(14,true),(15,true),(16,true)] rfl (by kernel_rfl) ?_;intro KK cA;rw[MY.out]
  iterate 13 (refine aa rfl (by rfl) (v:=?_) ?_ ?_;rotate_left;(intro w' hw';have q1:=eG w' (some ⟨bc,oc+p,none⟩) 16 (cc-p) E (L3.o.on hw');clear hw';go_simp;with_reducible rfl);go_simp)
  refine aU (f:=120) (args:=#[.slice (some ⟨kb,eh,none⟩) 32 kc,.slice (some ⟨nb,mj,none⟩) 12 nc,.slice a la ca,.slice (some ⟨bc,oc,none⟩) p cc]) rfl (by rfl) (by go_simp) ?_;refine(Dd kb eh nb mj kc nc key aq a la ca ad (some ⟨bc,oc,none⟩) p cc (b.take p) W C8 uj Hc Qq (HK.o.later oZ.o) (HN.o.later oZ.o) (HA.o.later oZ.o) Co Qr.o (λe=>by cases e) EU (by omega)).mono ?_;rintro e w2 ⟨g2,rfl,kj,cM,rN⟩;rw[Sq.o] at rN;refine⟨_,rfl,cM,?_⟩;have vI:ae (bj w2 (some ⟨g2,0,none⟩) 16 T):=rN;have fw:ae (Below w.heap.size w w2):=oZ.o.trans (cM.mono oZ.o.size);clear cM rN L3 Qr oZ;go_simp
  have alN:=Ba E T;rw[HS.o] at alN
  iterate 3 (refine aa rfl (by rfl) (v:=?_) ?_ ?_;rotate_left;(intro w' hw';have q2:=eG w' (some ⟨g2,0,none⟩) 16 16 T (vI.o.on hw');clear hw';go_simp;with_reducible rfl);go_simp)
  refine az cA ?_;clear cA;cases sb with
  |false=>
   go_wp2
   go_ret2
   exact⟨_,rfl,fw.o,_,yO.o _⟩
  |true=>
   go_wp2_with fail
   refine(xL kb eh nb mj kc nc key aq 1#32 (some ⟨bc,oc,none⟩) p cc (b.take p) w2 C8 uj Hc Qq (HK.o.later fw.o) (HN.o.later fw.o) ((HC.o.below yQ fw.o).cut (by omega)) (by omega) (by omega) m7).mono ?_;rintro e w3 ⟨v3,rfl,eZ,dt⟩;have rO:ae (w3.ownsRow w.heap.size 5 1 v3 p ((jx key aq b).map bv)):=by have:=bQ dt fw.o.size;unfold jx;rw[kW,Nat.add_sub_cancel];exact this
   have pI:ae (Below w.heap.size w w3):=fw.o.trans (eZ.mono fw.o.size);clear dt eZ vI
   go_wp2
   go_ret2
   exact⟨_,rfl,pI.o,_,rO.o⟩
 ·have hn:sb=false:=by rw[←HSb.o];refine CT _ _ _ _ λh=>?_;have:=h.1;omega
  subst hn;have i1:(lc:Int)-16<0:=by omega
  obtain⟨q,hq⟩:=aW ((lc:Int)-16:Int);have Ag:-16≤q:=by omega
  rw[hq] at i1
  go_enter func93,ntmps93
  go_wp2
  obtain⟨W,hW⟩:=aW (w.drew);have cL:Below w.heap.size w W:=by rw[←hW];exact gl
  have oZ:ae (Below w.heap.size w W):=cL;have MY:ae (w.drew=W):=hW;clear hW cL;refine ah (G:=bM) (by kernel_rfl) bM.refl bM.trans (by kernel_rfl) [(0,true),(1,true),(2,true),(3,true),(4,true),(5,true),(6,true),(7,true),(8,true),(9,true),(10,true),(11,true),(12,true),(13,false),(14,true),(15,true),(16,true)] rfl (by kernel_rfl) ?_;intro KK cA;rw[MY.out]
  iterate 3 (refine aa rfl (by rfl) (v:=?_) ?_ ?_;rotate_left;(intro w' hw';clear hw';go_simp;with_reducible rfl);go_simp)
  iterate 13 (refine dw rfl (by rfl) ?_;go_simp)
  iterate 1 (refine aa rfl (by rfl) (v:=?_) ?_ ?_;rotate_left;(intro w' hw';clear hw';go_simp;with_reducible rfl);go_simp)
  refine az cA ?_;clear cA
  go_wp2
  go_ret2
  exact⟨_,rfl,oZ.o,_,yO.o _⟩
theorem KA (a:bW)(len cap:Nat)(n:Nat)(hn:n<18446744073709551616)(l:aO)(w:aw)(hm:len≤10000)(hB:bj w a len l)(rk:a=none→cap=0):
  Calls prog 83 #[.slice a len cap,.int .i64 8,.int .u64 (n:Int),.bool false] w λe w'=>∃v,e= .returned v∧Below w.heap.size w w'∧w'.ownsRow w.heap.size 5 1 v (len+8) ((l++im 8 n false).map bv):=by
 have hl:=hB.1;have iz:Below w.heap.size w (w.alloc (.cells #[] 5)):=eF;obtain⟨v1,w1,lj,cH,uB⟩:=bx (w.alloc (.cells #[] 5)) w.heap.size (.slice (some ⟨w.heap.size,0,none⟩) 0 0) 0 [] (World.ownsRow_made w #[] 0 (di _) (Nat.zero_le _) rfl) a len cap l (hB.later iz) rk (by simp) (by omega);have fU:ae (Below w.heap.size w w1):=iz.grown uB (by simp) (λk hk=>by simp[Value.ownBlock] at hk;omega);rw[Nat.zero_add,List.nil_append] at cH;have f8:ae (w1.ownsRow w.heap.size 5 1 v1 (len+0) ((l++(im 8 n false).take 0).map bv)):=by show World.ownsRow _ _ _ _ _ _ _;simpa using cH
 have OX:ae _:=lj;clear lj cH uB iz hB
 go_enter func83,ntmps83
 go_wp2_with (at_builtin;refine ao rfl (.tmp 14) (.tmp 15) 22 rfl _ _ _ _ rfl rfl OX.o ?_)
 clear OX
 go_loopw [9,10] (λv i wr=>∃(k:Nat),k≤8∧i= .int .i64 k∧ae (wr.ownsRow w.heap.size 5 1 v (len+k) ((l++(im 8 n false).take k).map bv))∧ae (Below w.heap.size w wr)) (λ_ i _=>8-(intOf i).toNat)
 case atStart=>exact⟨0,Nat.zero_le _,rfl,f8,fU⟩
 case round=>
  clear f8 fU;obtain⟨k,hk,rfl,hO,hW⟩:=hrel
  by_cases dN:k<8
  ·have Z5:=FU 8 n false k k dN (by simp[vU])
   go_wp2
   go_loop [12,13] (λx j=>∃q:Nat,q≤k∧j= .int .i64 q∧x= .int .u64 (vF n q:Int)) (λ_ j=>k-(intOf j).toNat)
   case atStart=>exact⟨0,Nat.zero_le _,rfl,by simp[vF]⟩
   case round=>
    obtain⟨q,hq,rfl,rfl⟩:=hrel;have hdv:=Ha n q hn
    by_cases hqp:q<k
    ·have HQ:ae ((vF n (q+1):Int)=(vF n q:Int)/256):=by show _=_;rw[Aw];simp
     go_wp2
     exact⟨⟨q+1,by omega,by go_num,by rw[HQ.o]⟩,by simp[intOf];omega⟩
    ·have hqe:k=q:=by omega
     subst hqe;obtain⟨x,hx⟩:=aW (at8 (im 8 n false) k);rw[hx] at Z5;have fW:bj (wr.alloc (.cells #[.int .u8 (x.toNat:Int)] 5)) (some ⟨wr.heap.size,0,none⟩) 1 [x]:=jK _ [x] wr.heap.size _ _ _ (eC wr _) rfl;obtain⟨v2,w2,nD,cZ,kj⟩:=cI (wr.alloc (.cells #[.int .u8 (x.toNat:Int)] 5)) w.heap.size _ (len+k) _ (hO.out.alloc _) ⟨wr.heap.size,0,none⟩ 1 1 [x] fW (by have:=hW.out.size;simp;omega) (by omega);have py:ae _:=nD;have nW:ae (w2.ownsRow w.heap.size 5 1 v2 (len+(k+1)) ((l++(im 8 n false).take (k+1)).map bv)):=by show World.ownsRow _ _ _ _ _ _ _;rw[tW _ _ (by rw[eU];exact dN),hx,←List.append_assoc];exact cZ
     have fw:ae (Below w.heap.size w w2):=(hW.out.alloc hW.out.size _).grown kj (by have:=hW.out.size;simp;omega) (λk hk=>(hO.out.lt k hk).1);clear nD cZ kj fW hO hW hx
     go_wp2_with (at_builtin;refine ao rfl (.tmp 39) (.tmp 43) 22 rfl _ _ _ _ rfl rfl py.o ?_)
     exact⟨⟨k+1,by omega,by go_num,nW,fw⟩,by simp[intOf];omega⟩
  ·have ek:k=8:=by omega
   subst ek;have HO:ae (wr.ownsRow w.heap.size 5 1 u9 (len+8) ((l++im 8 n false).map bv)):=by have:=hO.out;rw[su (by rw[eU];exact di _)] at this;exact this
   clear hO
   go_wp2
   go_ret
   exact⟨_,rfl,hW.out,HO.o⟩
theorem zG (n:Nat)(hn:n<18446744073709551616)(w:aw):
  Calls prog 91 #[.int .u64 (n:Int)] w λe w'=>∃g c,e= .returned (.slice (some ⟨g,0,none⟩) 12 c)∧Below w.heap.size w w'∧12≤c∧c≤9223372036854775807∧bj w' (some ⟨g,0,none⟩) 12 (d7 n):=by
 have vD:(Instr.makeSlice 22 (.int .i64 4) (.int .i64 4)).run prog w= .ok (.slice (some ⟨w.heap.size,0,none⟩) 4 4) (w.alloc (.cells ((cz 4 (0:UInt8)).map bv).toArray 5)):=tv w 4 (by omega);have ck:Below w.heap.size w (w.alloc (.cells ((cz 4 (0:UInt8)).map bv).toArray 5)):=eF;have Hv:dz (w.alloc (.cells ((cz 4 (0:UInt8)).map bv).toArray 5)) w.heap.size 5 (cz 4 0):=dz.new w _ _;obtain⟨W1,fg⟩:∃W,w.alloc (.cells ((cz 4 (0:UInt8)).map bv).toArray 5)=W:=⟨_,rfl⟩;rw[fg] at vD ck Hv;have iG:=ak ck;have jC:=ak Hv;clear fg ck Hv
 go_enter func91,ntmps91
 go_wp2_with fail
 refine(KA (some ⟨w.heap.size,0,none⟩) 4 4 n hn (cz 4 0) W1 (by omega) (jC.o.nw 4 rfl) (λe=>by cases e)).mono ?_;rintro e w2 ⟨v,rfl,cM,cZ⟩;obtain⟨g,c,rfl,hg,hs⟩:=gO cZ (by omega);obtain⟨a',c',e',hB,gi,jM,_⟩:=bq cZ;cases e'
 have sO:ae (bj w2 (some ⟨g,0,none⟩) 12 (d7 n)):=hB;have fw:ae (Below w.heap.size w w2):=iG.o.trans (cM.mono iG.o.size);have alO:c≤9223372036854775807:=by unfold maxLen at jM;omega
 clear cZ hs hB cM vD
 go_wp2
 go_ret
 exact⟨g,c,rfl,fw.o,by omega,alO,sO.o⟩
theorem DF (n:Nat)(hn:n≤18446744073709551615)(w:aw):
  Calls prog 136 #[.int .u64 (n:Int)] w λe w'=>e= .returned (.agg ((d7 n).map bv).toArray)∧Below w.heap.size w w':=by
 have vD:∀W:aw,(Instr.makeSlice 22 (.int .i64 4) (.int .i64 4)).run prog W= .ok (.slice (some ⟨W.heap.size,0,none⟩) 4 4) (W.alloc (.cells #[.int .u8 0,.int .u8 0,.int .u8 0,.int .u8 0] 5)):=λW=>tv W 4 (by omega);obtain⟨Z,hZ⟩:=aW (#[Value.int .u8 0,.int .u8 0,.int .u8 0,.int .u8 0,.int .u8 0,.int .u8 0,.int .u8 0,.int .u8 0,.int .u8 0,.int .u8 0,.int .u8 0,.int .u8 0]:Array Value);obtain⟨Z4,hZ4⟩:∃Z:Array Value,#[Value.int .u8 0,.int .u8 0,.int .u8 0,.int .u8 0]=Z:=⟨_,rfl⟩;have HA:ae (dz ((w.alloc (.cells #[Value.int .u8 0,.int .u8 0,.int .u8 0,.int .u8 0,.int .u8 0,.int .u8 0,.int .u8 0,.int .u8 0,.int .u8 0,.int .u8 0,.int .u8 0,.int .u8 0] 158)).alloc (.cells #[Value.int .u8 0,.int .u8 0,.int .u8 0,.int .u8 0] 5)) w.heap.size 158 (cz 12 0)):=
  (show dz (w.alloc (.cells #[Value.int .u8 0,.int .u8 0,.int .u8 0,.int .u8 0,.int .u8 0,.int .u8 0,.int .u8 0,.int .u8 0,.int .u8 0,.int .u8 0,.int .u8 0,.int .u8 0] 158)) w.heap.size 158 (cz 12 0) from dz.new w 158 (cz 12 0)).later eF
 have HB:ae (bj ((w.alloc (.cells #[Value.int .u8 0,.int .u8 0,.int .u8 0,.int .u8 0,.int .u8 0,.int .u8 0,.int .u8 0,.int .u8 0,.int .u8 0,.int .u8 0,.int .u8 0,.int .u8 0] 158)).alloc (.cells #[Value.int .u8 0,.int .u8 0,.int .u8 0,.int .u8 0] 5)) (some ⟨w.heap.size+1,0,none⟩) 4 (cz 4 0)):=
  jK _ [0,0,0,0] (w.heap.size+1) _ _ (0,0) (by have:=eC (w.alloc (.cells #[Value.int .u8 0,.int .u8 0,.int .u8 0,.int .u8 0,.int .u8 0,.int .u8 0,.int .u8 0,.int .u8 0,.int .u8 0,.int .u8 0,.int .u8 0,.int .u8 0] 158)) (.cells #[Value.int .u8 0,.int .u8 0,.int .u8 0,.int .u8 0] 5);rwa [fx] at this) rfl
 have HW:ae (Below w.heap.size w ((w.alloc (.cells #[Value.int .u8 0,.int .u8 0,.int .u8 0,.int .u8 0,.int .u8 0,.int .u8 0,.int .u8 0,.int .u8 0,.int .u8 0,.int .u8 0,.int .u8 0,.int .u8 0] 158)).alloc (.cells #[Value.int .u8 0,.int .u8 0,.int .u8 0,.int .u8 0] 5))):=eF.alloc (by simp) _;clear hZ hZ4
 go_enter func136,ntmps136
 go_wp2_with fail
 refine bY (P:=λW=>Calls prog _ _ W _) (R:=λW=>ae (dz W w.heap.size 158 (cz 12 0))∧ae (bj W (some ⟨w.heap.size+1,0,none⟩) 4 (cz 4 0))∧ae (Below w.heap.size w W)) _ ⟨HA,HB,HW⟩ ?_;rintro W0 ⟨HA0,EW,pX⟩;clear HA HB HW vD;refine(ug (some ⟨w.heap.size+1,0,none⟩) 4 4 8 n false (cz 4 0) W0 (by omega) EW.o 8 (by decide)).mono ?_;rintro e w1 ⟨g1,rfl,uB,ck,pz⟩;have Hu:=sv n;obtain⟨C,hC⟩:=aW (d7 n);rw[hC] at Hu;have agY:bj w1 (some ⟨g1,0,none⟩) 12 C:=by rw[←hC];exact pz
 have HX:=aj agY;have Hv:=HA0.o.later ck;have fg:Below w.heap.size w w1:=pX.o.trans (ck.mono pX.o.size);have xA:=aL w1 w.heap.size _ _ (C.map bv) Hv (by simp[Hu]) (bd C);have bh:=setRow_heap w1 w.heap.size _ (C.map bv).toArray _ _ Hv;have bR:=aj (below_setRow fg (di _) (C.map bv).toArray);obtain⟨W2,fV⟩:=aW (w1.setRow w.heap.size (C.map bv).toArray);rw[fV] at xA bh bR;have cY:=aj bh;have IC:ae ((prog.info? 158).map (·.size)=some (C.map bv).toArray.size):=cW (n:=12) (by kernel_rfl) C Hu;have HC:=aj hC;have hat:(Instr.arrayAt 158 (.slice (some ⟨g1,0,none⟩) 12 12)).run prog w1= .ok (.pointer (some ⟨g1,0,none⟩)) w1:=by simp[Instr.arrayAt,run_underlying underlying158]
 clear bh fV Hv fg ck pz agY HA0 EW pX hC
 go_wp2_with (first|refine eQ rfl 158 _ rfl g1 0 12 12 5 C rfl HX.o underlying158 (by kernel_rfl) ?_|fail)
 (try simp only[nu,Exit.then])
 refine bodyPost_ret (results_cell_row rfl _ _ w.heap.size 158 _ (0,0) _ rfl cY.o underlying158 rfl IC.out) rfl ?_;exact⟨by rw[HC.o],bR.o⟩
theorem QU (W:aw)(d:Nat)(a:bW)(l c:Nat):(Op.equalIn (d+1) 22 (.slice a l c) (.slice none 0 0)).run prog W= .ok a.isNone W:=by
 cases a<;>simp[Op.equalIn,run_underlying underlying22]
theorem Yn (W:aw)(a:bW)(l c:Nat):(Op.equal 22 (.slice a l c) (.slice none 0 0)).run prog W= .ok a.isNone W:=QU W 9999 a l c
theorem KB (W:aw)(a:bW)(l c:Nat):(binOp .eql 22 (.slice a l c) (.slice none 0 0)).run prog W= .ok (.bool a.isNone) W:=by simp[binOp,Yn W a l c]
theorem yp (a:bW)(len cap:Nat)(l:aO)(w:aw)(hB:bj w a len l)(hn:a=none→cap=0)(FW:len≤100000):
  Calls prog 56 #[.slice a len cap] w λe w'=>∃v,e= .returned v∧Below w.heap.size w w'∧w'.ownsRow w.heap.size 5 1 v len (l.map bv):=by
 have hl:=hB.1;cases a with
 |none=>
  have h0:len=0:=by
   rcases hB.2 with h|⟨b,o,e,_⟩
   ·exact h
   ·cases e
  have hc:=hn rfl;subst h0 hc;obtain rfl:l=[]:=List.length_eq_zero_iff.1 hl;clear hB hn;have rk:∀W:aw,(binOp .eql 22 (.slice none 0 0) (.slice none 0 0)).run prog W= .ok (.bool true) W:=λW=>KB W _ _ _
  go_enter func56,ntmps56
  go_wp2
  go_ret
  exact⟨_,rfl,bZ _ _,⟨rfl,.inl ⟨rfl,rfl⟩⟩⟩
 |some x=>
  have iz:Below w.heap.size w (w.alloc (.cells #[] 5)):=eF;obtain⟨v1,w1,lj,cH,uB⟩:=bx (w.alloc (.cells #[] 5)) w.heap.size (.slice (some ⟨w.heap.size,0,none⟩) 0 0) 0 [] (World.ownsRow_made w #[] 0 (di _) (Nat.zero_le _) rfl) (some x) len cap l (hB.later iz) (λe=>by cases e) (by simp) (by omega);have fU:ae (Below w.heap.size w w1):=iz.grown uB (by simp) (λk hk=>by simp[Value.ownBlock] at hk;omega);rw[Nat.zero_add,List.nil_append] at cH;have f8:=aj cH;have OX:ae _:=lj;clear lj cH uB iz hB hn;have rk:∀W:aw,(binOp .eql 22 (.slice (some x) len cap) (.slice none 0 0)).run prog W= .ok (.bool false) W:=λW=>KB W _ _ _
  go_enter func56,ntmps56
  go_wp2_with (at_builtin;refine ao rfl (.tmp 5) (.tmp 6) 22 rfl _ _ _ _ rfl rfl OX.o ?_)
  go_ret
  exact⟨_,rfl,fU.o,f8.o⟩
theorem Nb (g t off:Nat)(A B:bK)(key:aO)(has:Bool)(n p1 p2 p3:Nat)(aq:aO)(a:bW)(la ca:Nat)(ad:aO)(c:bW)(lc cc:Nat)(b:aO)(w:aw)(hK:KC w g t off A B key has n)(hn:aq.length=12)
  (h1:w.heap[p1]?=some (.cells #[.pointer (some ⟨g,off,none⟩)] 155 (0,0))) (h2:w.heap[p2]?=some (.cells #[.slice a la ca] 22 (0,0))) (h3:w.heap[p3]?=some (.cells #[.slice c lc cc] 22 (0,0)))
  (hA:bj w a la ad) (Co:a=none→ca=0) (EU:la≤1000) (GY:la≤ca) (Hy:ca≤maxLen) (hB:bj w c lc b) (kX:c=none→cc=0) (ig:lc≤1000) (kZ:lc≤cc) (gB:cc≤maxLen):
  Calls prog 117 #[.agg (aq.map bv).toArray,.pointer (some ⟨p1,0,none⟩),.pointer (some ⟨p2,0,none⟩),.pointer (some ⟨p3,0,none⟩)] w λe w'=>
   ∃v,e= .returned (.tuple #[v,.int .i64 0])∧Below w.heap.size w w'∧w'.ownsRow w.heap.size 5 1 v (lc+16) ((ku key aq ad b).map bv):=by
 have AB:=hK.k;have HI:ae ((prog.info? 24).map (·.size)=some (key.map bv).length):=by
  have e1:(prog.info? 24).map (·.size)=some 32:=by kernel_rfl
  show _=_;rw[e1];simp[AB]
 have HIN:ae ((prog.info? 158).map (·.size)=some (aq.map bv).toArray.size):=cW (n:=12) (by kernel_rfl) aq hn;obtain⟨W,hW⟩:=aW ((w.alloc (.cells (aq.map bv).toArray 158)).drew);have cL:Below w.heap.size w W:=by rw[←hW];exact eF.drew
 have Ue:dz W w.heap.size 158 aq:=by rw[←hW];exact(dz.new w 158 aq).later gl
 have HK:=aj (hK.later cL);have HN:=aj Ue;have Yo:=aj (hA.later cL);have gx:=aj (hB.later cL);have oZ:=aj cL;have pd:=aj hW;have Bp:ae (∀w',bM W w'→w'.cell? ⟨p1,0,none⟩=some (.pointer (some ⟨g,off,none⟩))∧w'.cell? ⟨p2,0,none⟩=some (.slice a la ca)∧w'.cell? ⟨p3,0,none⟩=some (.slice c lc cc)):=λw' hw'=>by
  have hb:Below w.heap.size w w':=cL.trans (hw'.mono cL.size);have e1:=hb.block p1 (gD.1 h1).1;have e2:=hb.block p2 (gD.1 h2).1;have e3:=hb.block p3 (gD.1 h3).1;refine⟨?_,?_,?_⟩
  ·rw[cell_of_row w' p1 0 _ _ (0,0) (e1.trans h1)];rfl
  ·rw[cell_of_row w' p2 0 _ _ (0,0) (e2.trans h2)];rfl
  ·rw[cell_of_row w' p3 0 _ _ (0,0) (e3.trans h3)];rfl
 clear hK h1 h2 h3 hA hB cL Ue hW
 go_enter func117,ntmps117
 go_wp2
 refine ah (G:=bM) (by kernel_rfl) bM.refl bM.trans (by kernel_rfl) [(0,true),(1,true),(2,true),(3,true),(4,true),(5,true),(6,true),(7,false),(8,true),(9,true)] rfl (by kernel_rfl) ?_;intro KK cA;rw[pd.o]
 iterate 3 (refine aa rfl (by rfl) (v:=?_) ?_ ?_;rotate_left;(intro w' hw';obtain⟨q1,q2,q3⟩:=Bp.o w' hw';clear hw';go_simp;with_reducible rfl);go_simp)
 refine aa rfl (by rfl) (v:=.agg (key.map bv).toArray) (λw' hw'=>bE 24 _ rfl g off rfl (key.map bv) _ (HK.o.later hw').agc underlying24 rfl HI.o) ?_;go_simp
 refine aa rfl (by rfl) (v:=.agg (aq.map bv).toArray) (λw' hw'=>ar 158 _ rfl w.heap.size rfl 158 _ (0,0) _ (HN.o.later hw') underlying158 rfl HIN.o) ?_;go_simp
 iterate 2 (refine aa rfl (by rfl) (v:=?_) ?_ ?_;rotate_left;(intro w' hw';obtain⟨q1,q2,q3⟩:=Bp.o w' hw';clear hw';go_simp;with_reducible rfl);go_simp)
 refine aU (f:=118) (args:=#[.agg (key.map bv).toArray,.agg (aq.map bv).toArray,.slice a la ca,.slice c lc cc]) rfl (by rfl) (by go_simp) ?_;refine(Ua key aq a la ca ad c lc cc b W AB hn Yo.o Co EU GY Hy gx.o kX ig kZ gB).mono ?_;rintro e w3 ⟨v3,rfl,eZ,dt⟩;refine⟨_,rfl,eZ,?_⟩;have rO:=aj (bQ dt oZ.o.size);have pI:=aj (oZ.o.trans (eZ.mono oZ.o.size));clear dt eZ Bp HN HK Yo gx pd;go_simp
 iterate 2 (refine aa rfl (by rfl) (v:=?_) ?_ ?_;rotate_left;(intro w' hw';clear hw';go_simp;with_reducible rfl);go_simp)
 refine az cA ?_;clear cA
 go_wp2
 go_ret2
 exact⟨_,rfl,pI.o,rO.o⟩
theorem Nc (g t off:Nat)(A B:bK)(key:aO)(has:Bool)(n p1 p2 p3:Nat)(aq:aO)(a:bW)(la ca:Nat)(ad:aO)(c:bW)(lc cc:Nat)(b:aO)(w:aw)(hK:KC w g t off A B key has n)(hn:aq.length=12)
  (h1:w.heap[p1]?=some (.cells #[.pointer (some ⟨g,off,none⟩)] 155 (0,0))) (h2:w.heap[p2]?=some (.cells #[.slice a la ca] 22 (0,0))) (h3:w.heap[p3]?=some (.cells #[.slice c lc cc] 22 (0,0)))
  (hA:bj w a la ad) (Co:a=none→ca=0) (EU:la≤1000) (GY:la≤ca) (Hy:ca≤maxLen) (hB:bj w c lc b) (kX:c=none→cc=0) (ig:lc≤1100) (kZ:lc≤cc) (gB:cc≤maxLen):
  Calls prog 121 #[.agg (aq.map bv).toArray,.pointer (some ⟨p1,0,none⟩),.pointer (some ⟨p2,0,none⟩),.pointer (some ⟨p3,0,none⟩)] w λe w'=>Below w.heap.size w w'∧
   ((fY key aq ad b=true∧∃a' c',e= .returned (.tuple #[.slice a' (lc-16) c',.int .i64 0])∧w'.ownsRow w.heap.size 5 1 (.slice a' (lc-16) c') (lc-16) ((jx key aq b).map bv))∨
   (fY key aq ad b=false∧e= .returned (.tuple #[.slice none 0 0,.int .i64 3]))):=by
 have AB:=hK.k;have HI:ae ((prog.info? 24).map (·.size)=some (key.map bv).length):=by
  have e1:(prog.info? 24).map (·.size)=some 32:=by kernel_rfl
  show _=_;rw[e1];simp[AB]
 have HIN:ae ((prog.info? 158).map (·.size)=some (aq.map bv).toArray.size):=cW (n:=12) (by kernel_rfl) aq hn;obtain⟨W,hW⟩:=aW ((w.alloc (.cells (aq.map bv).toArray 158)).drew);have cL:Below w.heap.size w W:=by rw[←hW];exact eF.drew
 have Ue:dz W w.heap.size 158 aq:=by rw[←hW];exact(dz.new w 158 aq).later gl
 have HK:=aj (hK.later cL);have HN:=aj Ue;have Yo:=aj (hA.later cL);have gx:=aj (hB.later cL);have oZ:=aj cL;have pd:=aj hW;have Bp:ae (∀w',bM W w'→w'.cell? ⟨p1,0,none⟩=some (.pointer (some ⟨g,off,none⟩))∧w'.cell? ⟨p2,0,none⟩=some (.slice a la ca)∧w'.cell? ⟨p3,0,none⟩=some (.slice c lc cc)):=λw' hw'=>by
  have hb:Below w.heap.size w w':=cL.trans (hw'.mono cL.size);have e1:=hb.block p1 (gD.1 h1).1;have e2:=hb.block p2 (gD.1 h2).1;have e3:=hb.block p3 (gD.1 h3).1;refine⟨?_,?_,?_⟩
  ·rw[cell_of_row w' p1 0 _ _ (0,0) (e1.trans h1)];rfl
  ·rw[cell_of_row w' p2 0 _ _ (0,0) (e2.trans h2)];rfl
  ·rw[cell_of_row w' p3 0 _ _ (0,0) (e3.trans h3)];rfl
 clear hK h1 h2 h3 hA hB cL Ue hW
 go_enter func121,ntmps121
 go_wp2
 refine ah (G:=bM) (by kernel_rfl) bM.refl bM.trans (by kernel_rfl) [(0,true),(1,true),(2,true),(3,true),(4,true),(5,true),(6,true),(7,false),(8,true),(9,true),(10,true),(11,true)] rfl (by kernel_rfl) ?_;intro KK cA;rw[pd.o]
 iterate 3 (refine aa rfl (by rfl) (v:=?_) ?_ ?_;rotate_left;(intro w' hw';obtain⟨q1,q2,q3⟩:=Bp.o w' hw';clear hw';go_simp;with_reducible rfl);go_simp)
 refine aa rfl (by rfl) (v:=.agg (key.map bv).toArray) (λw' hw'=>bE 24 _ rfl g off rfl (key.map bv) _ (HK.o.later hw').agc underlying24 rfl HI.o) ?_;go_simp
 refine aa rfl (by rfl) (v:=.agg (aq.map bv).toArray) (λw' hw'=>ar 158 _ rfl w.heap.size rfl 158 _ (0,0) _ (HN.o.later hw') underlying158 rfl HIN.o) ?_;go_simp
 iterate 2 (refine aa rfl (by rfl) (v:=?_) ?_ ?_;rotate_left;(intro w' hw';obtain⟨q1,q2,q3⟩:=Bp.o w' hw';clear hw';go_simp;with_reducible rfl);go_simp)
 refine aU (f:=122) (args:=#[.agg (key.map bv).toArray,.agg (aq.map bv).toArray,.slice a la ca,.slice c lc cc]) rfl (by rfl) (by go_simp) ?_;refine(Ub key aq a la ca ad c lc cc b W AB hn Yo.o Co EU GY Hy gx.o kX ig kZ gB).mono ?_;rintro e w3 ⟨eZ,⟨hS,a3,c3,rfl,_,dt⟩|⟨hS,rfl⟩⟩
 ·refine⟨_,rfl,eZ,?_⟩;have rO:=aj (bQ dt oZ.o.size);have pI:=aj (oZ.o.trans (eZ.mono oZ.o.size));have HS:=aj ((wb key aq ad b).2 hS);clear dt eZ Bp HN HK Yo gx pd hS;go_simp
  iterate 4 (refine aa rfl (by rfl) (v:=?_) ?_ ?_;rotate_left;(intro w' hw';clear hw';go_simp;with_reducible rfl);go_simp)
  refine az cA ?_;clear cA
  go_wp2
  go_ret2
  exact⟨pI.o,.inl ⟨HS.o,_,_,rfl,rO.o⟩⟩
 ·refine⟨_,rfl,eZ,?_⟩;have pI:=aj (oZ.o.trans (eZ.mono oZ.o.size));have HS:=aj (CT key aq ad b hS);clear eZ Bp HN HK Yo gx pd hS;go_simp
  iterate 4 (refine aa rfl (by rfl) (v:=?_) ?_ ?_;rotate_left;(intro w' hw';clear hw';go_simp;with_reducible rfl);go_simp)
  refine az cA ?_;clear cA
  go_wp2
  go_ret2
  exact⟨pI.o,.inr ⟨HS.o,rfl⟩⟩
def Pf (D:Value→Nat→aw→Prop)(g off:Nat)(has:Bool)(n lc:Nat)(b:aO)(w:aw)(e:Ending)(w':aw):Prop:=
   (has=false∧∃v,e= .returned (.tuple #[v,.int .i64 0])∧Below w.heap.size w w'∧w'.ownsRow w.heap.size 5 1 v lc (b.map bv))∨
   (has=true∧n=gf∧e= .returned (.tuple #[.slice none 0 0,.int .i64 5])∧w'=w)∨
   (has=true∧n≠gf∧∃v er W,Below w.heap.size w W∧D v er W∧((er≠0∧e= .returned (.tuple #[.slice none 0 0,.int .i64 ((er:Nat):Int)])∧w'=W)∨(er=0∧e= .returned (.tuple #[v,.int .i64 0])∧w'=W.setCell ⟨g,off+33,none⟩ (.int .u64 ((n+1:Nat):Int)))))
theorem Nd (Uf:Array Value)(D:Value→Nat→aw→Prop)(g t off:Nat)(A B:bK)(key:aO)(has:Bool)(n:Nat)(c:bW)(lc cc:Nat)(b:aO)(w:aw)(hK:KC w g t off A B key has n)(hn:n≤18446744073709551615)(hB:bj w c lc b)(kX:c=none→cc=0)(ig:lc≤100000)
  (hdo:ae (has=true→n≠gf→∀W,Below w.heap.size w W→Calls prog 117 (#[.agg ((d7 n).map bv).toArray]++Uf) W λe w'=>∃v er,e= .returned (.tuple #[v,.int .i64 ((er:Nat):Int)])∧Below W.heap.size W w'∧D v er w')):
  Calls prog 116 #[.pointer (some ⟨g,off,none⟩),.slice c lc cc,.func (.func 117) #[] Uf] w λe w'=>
   Pf D g off has n lc b w e w':=by
 have q1:=hK.LM;have q2:=hK.num;have HK:=aj hK;have HB:=aj hB;clear hK hB;cases has with
 |false=>
  go_enter func116,ntmps116
  go_wp2_with fail
  refine(yp c lc cc b w HB.o kX ig).mono ?_;rintro e w1 ⟨v1,rfl,ck,cH⟩;have iG:=aj ck;have f8:=aj cH;clear ck cH q1 q2
  go_wp2_with fail
  go_ret2
  exact .inl ⟨rfl,_,rfl,iG.o,f8.o⟩
 |true=>
  by_cases hl:n=18446744073709551615
  ·subst hl
   go_enter func116,ntmps116
   go_wp2_with fail
   go_ret2
   exact .inr (.inl ⟨rfl,rfl,rfl,rfl⟩)
  ·have hl':¬(n:Int)=18446744073709551615:=by omega
   have HL:=aj hl;have HDo:=aj (hdo.out rfl hl);clear hdo
   go_enter func116,ntmps116
   go_wp2_with fail
   refine(DF n hn w).mono ?_;rintro e w1 ⟨rfl,ck⟩;have iG:=aj ck;clear ck q1 q2
   go_wp2_with fail
   refine(HDo.o w1 iG.o).mono ?_;rintro e w2 ⟨v2,er,rfl,cM,hD⟩;have fw:=aj (iG.o.trans (cM.mono iG.o.size));have HD:=aj hD;have Ug:=HK.o.later fw.o;have q3:=Ug.num;have q4:=Ug.free (off+33);clear cM hD Ug
   by_cases h0:er=0
   ·subst h0;have JY:IntKind.u64.wrap ((n:Int)+1)=((n+1:Nat):Int):=by rw[IntKind.wrap_u64];omega
    go_wp2_with fail
    go_ret2
    exact .inr (.inr ⟨rfl,HL.o,v2,0,w2,fw.o,HD.o,.inr ⟨rfl,rfl,rfl⟩⟩)
   ·have h0':¬(er:Int)=0:=by omega
    go_wp2_with fail
    go_ret2
    exact .inr (.inr ⟨rfl,HL.o,v2,er,w2,fw.o,HD.o,.inl ⟨h0,rfl,rfl⟩⟩)
theorem Ng (Uf:Array Value)(D:Value→Nat→aw→Prop)(g t off:Nat)(A B:bK)(key:aO)(has:Bool)(n:Nat)(c:bW)(lc cc:Nat)(b:aO)(w:aw)(hK:KC w g t off A B key has n)(hn:n≤18446744073709551615)(hB:bj w c lc b)(kX:c=none→cc=0)(ig:lc≤100000)
  (hdo:ae (has=true→n≠gf→∀W,Below w.heap.size w W→Calls prog 121 (#[.agg ((d7 n).map bv).toArray]++Uf) W λe w'=>∃v er,e= .returned (.tuple #[v,.int .i64 ((er:Nat):Int)])∧Below W.heap.size W w'∧D v er w')):
  Calls prog 116 #[.pointer (some ⟨g,off,none⟩),.slice c lc cc,.func (.func 121) #[] Uf] w λe w'=>
   Pf D g off has n lc b w e w':=by
 have q1:=hK.LM;have q2:=hK.num;have HK:=aj hK;have HB:=aj hB;clear hK hB;cases has with
 |false=>
  go_enter func116,ntmps116
  go_wp2_with fail
  refine(yp c lc cc b w HB.o kX ig).mono ?_;rintro e w1 ⟨v1,rfl,ck,cH⟩;have iG:=aj ck;have f8:=aj cH;clear ck cH q1 q2
  go_wp2_with fail
  go_ret2
  exact .inl ⟨rfl,_,rfl,iG.o,f8.o⟩
 |true=>
  by_cases hl:n=18446744073709551615
  ·subst hl
   go_enter func116,ntmps116
   go_wp2_with fail
   go_ret2
   exact .inr (.inl ⟨rfl,rfl,rfl,rfl⟩)
  ·have hl':¬(n:Int)=18446744073709551615:=by omega
   have HL:=aj hl;have HDo:=aj (hdo.out rfl hl);clear hdo
   go_enter func116,ntmps116
   go_wp2_with fail
   refine(DF n hn w).mono ?_;rintro e w1 ⟨rfl,ck⟩;have iG:=aj ck;clear ck q1 q2
   go_wp2_with fail
   refine(HDo.o w1 iG.o).mono ?_;rintro e w2 ⟨v2,er,rfl,cM,hD⟩;have fw:=aj (iG.o.trans (cM.mono iG.o.size));have HD:=aj hD;have Ug:=HK.o.later fw.o;have q3:=Ug.num;have q4:=Ug.free (off+33);clear cM hD Ug
   by_cases h0:er=0
   ·subst h0;have JY:IntKind.u64.wrap ((n:Int)+1)=((n+1:Nat):Int):=by rw[IntKind.wrap_u64];omega
    go_wp2_with fail
    go_ret2
    exact .inr (.inr ⟨rfl,HL.o,v2,0,w2,fw.o,HD.o,.inr ⟨rfl,rfl,rfl⟩⟩)
   ·have h0':¬(er:Int)=0:=by omega
    go_wp2_with fail
    go_ret2
    exact .inr (.inr ⟨rfl,HL.o,v2,er,w2,fw.o,HD.o,.inl ⟨h0,rfl,rfl⟩⟩)
end Go.Proofs.YtkdpblbhcfhagaaGreatDoor
