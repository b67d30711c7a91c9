import Derived.Test.YtkdpblbhcfhagaaGreatDoorQap
namespace Go.Proofs.YtkdpblbhcfhagaaGreatDoor
open Go.Proofs.Tryz
open _root_.Nat renaming le_refl → di, le_trans → kx, lt_of_lt_of_le → tV
open Go.RowKit.Below renaming refl → bZ, heap_alloc → jE
open Go.World renaming size_alloc → fx
open _root_.Array renaming getElem?_eq_some_iff → gD
open Go renaming undef → ag, World → aw, heap_alloc_new → eC
open _root_.List renaming replicate → cz, not_mem_nil → nj, mem_cons → mg, take_of_length_le → su
open Go.Exit renaming inBlock → nu
set_option maxHeartbeats 64000000
set_option linter.unusedVariables false
set_option maxRecDepth 100000
open Go.RowKit
theorem GG (w:aw)(A B:aO)(ha hb:Bool)(n m:Nat)(hA:A.length=32)(hB:B.length=32):
  ∃X1 X2,(storeCells ⟨w.heap.size,0,none⟩ (dM A ha n)).run prog ((w.alloc (.cells zo 42)).alloc (.cells zo 42))= .ok () X1∧(storeCells ⟨w.heap.size+1,0,none⟩ (dM B hb m)).run prog X1= .ok () X2∧
   nk X2 w.heap.size A ha n∧nk X2 (w.heap.size+1) B hb m∧Below w.heap.size w X2:=by
 obtain⟨W,hW⟩:=aW ((w.alloc (.cells zo 42)).alloc (.cells zo 42));have h1:W.heap[w.heap.size]?=some (.cells zo 42 (0,0)):=by rw[←hW,jE _ _ _ (by simp),eC]
 have h2:W.heap[w.heap.size+1]?=some (.cells zo 42 (0,0)):=by have:=eC (w.alloc (.cells zo 42)) (.cells zo 42);rw[fx] at this;rw[←hW];exact this
 have fe:Below w.heap.size w W:=by rw[←hW];exact eF.alloc (by simp) _
 have s1:=aL W w.heap.size _ _ (dM A ha n) h1 (by rw[dK,hA];rfl) (jL A ha n);have r1:=setRow_heap W w.heap.size _ (dM A ha n).toArray _ _ h1;have r2:(W.setRow w.heap.size (dM A ha n).toArray).heap[w.heap.size+1]?=_:=(setRow_other W w.heap.size (w.heap.size+1) _ (by omega)).trans h2;have ck:=below_setRow fe (di _) (dM A ha n).toArray;obtain⟨X1,jN⟩:∃X,W.setRow w.heap.size (dM A ha n).toArray=X:=⟨_,rfl⟩;rw[jN] at s1 r1 r2 ck;have s2:=aL X1 (w.heap.size+1) _ _ (dM B hb m) r2 (by rw[dK,hB];rfl) (jL B hb m);have t1:(X1.setRow (w.heap.size+1) (dM B hb m).toArray).heap[w.heap.size]?=_:=(setRow_other X1 (w.heap.size+1) w.heap.size _ (by omega)).trans r1;have t2:=setRow_heap X1 (w.heap.size+1) _ (dM B hb m).toArray _ _ r2;rw[hW];exact⟨X1,_,s1,s2,⟨t1,hA⟩,⟨t2,hB⟩,below_setRow ck (by omega) _⟩
theorem sK {P:Program}{fn:Func}{p q r u:Tmp}{ty tk:TypeId}(h:fn.results= #[.cell p ty,.cell q ty,.cell r tk,.tmp u])(tmps:Array Value)(w:aw)(g1 g2 g3:Nat)(t tk':TypeId)(A B C:Array Value)(v:Value)(d dk:TypeDesc)
  (hp:tmps.getD p ag= .pointer (some ⟨g1,0,none⟩)) (hq:tmps.getD q ag= .pointer (some ⟨g2,0,none⟩)) (hr:tmps.getD r ag= .pointer (some ⟨g3,0,none⟩)) (hu':tmps.getD u ag=v)
  (h1:w.heap[g1]?=some (.cells A t (0,0))) (h2:w.heap[g2]?=some (.cells B t (0,0))) (h3:w.heap[g3]?=some (.cells C tk' (0,0)))
  (hu:P.underlying ty=some d) (hd:(match d with| .struct _| .array _ _=>true|_=>false)=true) (hk:P.underlying tk=some dk) (hdk:(match dk with| .struct _| .array _ _=>true|_=>false)=true) (hA:(P.info? ty).map (·.size)=some A.size) (hB:(P.info? ty).map (·.size)=some B.size) (hC:(P.info? tk).map (·.size)=some C.size):
  (results fn tmps).run P w= .ok (.tuple #[.agg A,.agg B,.agg C,v]) w:=by
 have ND:tmps[p]?.getD ag= .pointer (some ⟨g1,0,none⟩):=by simpa using hp
 have NF:tmps[q]?.getD ag= .pointer (some ⟨g2,0,none⟩):=by simpa using hq
 have ZP:tmps[r]?.getD ag= .pointer (some ⟨g3,0,none⟩):=by simpa using hr
 have hv':tmps[u]?.getD ag=v:=by simpa using hu'
 simp[results,h,ND,NF,ZP,hv',asAddr,run_loadVar_row w g1 t ty A (0,0) d h1 hu hd hA,run_loadVar_row w g2 t ty B (0,0) d h2 hu hd hB,run_loadVar_row w g3 tk' tk C (0,0) dk h3 hk hdk hC]
structure nL (s:Nat)(w w':aw):Prop where
 size:w.heap.size≤w'.heap.size
 block:∀k,k<w.heap.size→k≠s→k≠s+1→k≠s+1+1→w'.heap[k]?=w.heap[k]?
theorem nL.refl (s:Nat)(w:aw):nL s w w:=⟨di _,λ_ _ _ _ _=>rfl⟩
theorem nL.trans (s:Nat)(a b c:aw)(h:nL s a b)(k:nL s b c):nL s a c:=
 ⟨kx h.size k.size,λi hi h1 h2 h3=>(k.block i (tV hi h.size) h1 h2 h3).trans (h.block i hi h1 h2 h3)⟩
theorem nL.setRow (s g:Nat)(w:aw)(c:Array Value)(hg:g=s∨g=s+1∨g=s+1+1):nL s w (w.setRow g c):=⟨by simp[World.setRow],λk _ h1 h2 h3=>setRow_other w g k c (by omega)⟩
def vM (w:aw):List (Nat×TypeId×bK):=[(w.heap.size,42,aab),(w.heap.size+1,42,aab),(w.heap.size+1+1,24,bF)]
theorem ix:aab.length=34:=by kernel_rfl
def NS.wU (x:NS):aO:=if x.bP=true then gH x.M.C [] else nS x.M.C []
def NS.wV (x:NS):aO:=if x.bP=true then nS x.M.C [] else gH x.M.C []
theorem AW (g:Nat)(x:NS)(w:aw)(h:ju w g x)(hT:TT w)(h2:x.st=2):
  Calls prog 19 #[.pointer (some ⟨g,0,none⟩)] w λe w'=>e= .returned (.tuple #[.agg (dM (NS.wU x) true 0).toArray,.agg (dM (NS.wV x) true 0).toArray,.agg (x.M.H.map bv).toArray,.int .i64 0])∧Below w.heap.size w w':=by
 obtain⟨seen,hs⟩:=h;have oa:=hs.sd.lt;have HS:=aj hs.sd;have HT:=aj hT;have gC:ae (Vw w (((w.alloc (.cells aab.toArray 42)).alloc (.cells aab.toArray 42)).alloc (.cells bF.toArray 24)) (vM w)):=by have h:=(((Vw.none w).alloc 42 aab).alloc 42 aab).alloc 24 bF;simp only[fx] at h;exact h
 obtain⟨D1,sT⟩:∃D,gH x.M.C []=D:=⟨_,rfl⟩;obtain⟨D2,xj⟩:∃D,nS x.M.C []=D:=⟨_,rfl⟩;obtain⟨H,hH⟩:=aW (x.M.H);have l1:D1.length=32:=by rw[←sT];exact cS _ _
 have l2:D2.length=32:=by rw[←xj];exact cS _ _
 have lH:H.length=32:=by rw[←hH];exact hs.sd.mi.h
 have HD:=aj (And.intro sT (And.intro xj hH));have O1:=aj (gF D1 true 0 l1);have uy:=aj (gF D2 true 0 l2);have HIH:=aj (rC lH);have adQ:=aj (wR lH);obtain⟨S1,Fo⟩:∃S,NS.wU x=S:=⟨_,rfl⟩;obtain⟨S2,rq⟩:∃S,NS.wV x=S:=⟨_,rfl⟩;rw[Fo,rq,hH];have Zn:=aj (And.intro Fo rq);clear hs hT sT xj hH Fo rq
 go_enter func19,ntmps19
 refine wp_seq (wp_cut (λa W=>a={tmps:=#[.pointer (some ⟨g,0,none⟩),ag,.pointer (some ⟨w.heap.size,0,none⟩),.pointer (some ⟨w.heap.size+1,0,none⟩),.pointer (some ⟨w.heap.size+1+1,0,none⟩),.int .i64 0,ag,ag,ag,ag,ag,ag,ag,ag,ag,ag,ag,ag,ag,ag,ag,ag,ag,ag,ag,ag,ag,ag,ag,ag,ag,ag,ag,ag,ag,ag,ag,ag,ag,ag,ag,ag,ag],defers:=[]}∧ae (Vw w W (vM w))) ?_ ?_)
 ·go_wp2
  all_goals first|exact gC|exact⟨rfl,gC⟩|exact⟨rfl,rfl,gC⟩
 ·rintro a W0 ⟨rfl,HV⟩;simp only[Exit.then];clear gC
  go_wp2_with fail
  refine(Ea g 64 (BE x.own x.once x.S seen++[.int .i64 (x.code:Int)]) x.M.C x.M.H x.M.K x.M.has x.M.n W0 (HS.o.later HV.o.aY).mi (HT.o.later HV.o.aY).1).mono ?_;rintro e w1 ⟨rfl,ck⟩;rw[HD.o.1,HD.o.2.1];obtain⟨X1,X2,s1,s2,gi,jM,rV⟩:=GG w1 D1 D2 true true 0 0 l1 l2;simp only[zo] at s1 s2;obtain⟨p,hp⟩:=aW (w1.heap.size);have Jj:=aj ((HV.o.later ck).later rV);have hpw:w.heap.size+1+1<p:=by rw[←hp];exact(HV.o.later ck).vr.lt (w.heap.size+1+1,24,bF) (by simp[vM])
  rw[hp] at s1 s2 gi jM;have B5:=aj gi;have vR:=aj jM;have q9:=(HS.o.later Jj.o.aY).next;clear gi jM rV ck HV;have vg:(dM D1 true 0).length=34:=by rw[dK,l1]
  have Au:(dM D2 true 0).length=34:=by rw[dK,l2]
  obtain⟨Y,hY⟩:=aW (X2.drew);have cL:Below X2.heap.size X2 Y:=by rw[←hY];exact gl
  have yV:=aj hY;have Lu:=aj (Jj.o.later cL);have aiD:=aj (B5.o.later cL);have aiE:=aj (vR.o.later cL);have HSY:=aj (HS.o.later Lu.o.aY);clear hY cL B5 vR Jj;have HL1:ae (∀w',nL w.heap.size Y w'→w'.heap[p]?=some (.cells (dM D1 true 0).toArray 42 (0,0))):=λw' hw'=>(hw'.block p aiD.o.lt (by omega) (by omega) (by omega)).trans aiD.o.row;have Ja:ae (∀w',nL w.heap.size Y w'→w'.heap[p+1]?=some (.cells (dM D2 true 0).toArray 42 (0,0))):=λw' hw'=>(hw'.block (p+1) aiE.o.lt (by omega) (by omega) (by omega)).trans aiE.o.row;have HLH:ae (∀w',nL w.heap.size Y w'→∀j v,(H.map bv)[j]?=some v→w'.cell? ⟨g,32+j,none⟩=some v):=λw' hw' j v hv=>by rw[World.cell?_of_block (hw'.block g HSY.o.lt (by omega) (by omega) (by omega))];exact HSY.o.aix j v (by rw[HD.o.2.2];exact hv)
  cases xA:x.bP with
  |true=>
   have gY:x.code=3:=by unfold NS.code;rw[h2,xA];rfl
   rw[gY] at q9;have e1:S1=D1:=by rw[←Zn.o.1,←HD.o.1];unfold NS.wU;rw[if_pos xA]
   have e2:S2=D2:=by rw[←Zn.o.2,←HD.o.2.1];unfold NS.wV;rw[if_pos xA]
   obtain⟨Z1,Sz⟩:∃Z,Y.setRow w.heap.size (dM D1 true 0).toArray=Z:=⟨_,rfl⟩;obtain⟨Z2,Jf⟩:∃Z,Z1.setRow (w.heap.size+1) (dM D2 true 0).toArray=Z:=⟨_,rfl⟩;obtain⟨Z3,SA⟩:∃Z,Z2.setRow (w.heap.size+1+1) (H.map bv).toArray=Z:=⟨_,rfl⟩;have v1:=Lu.o.put 0 w.heap.size 42 aab (dM D1 true 0) rfl;rw[Sz] at v1;have v2:=v1.put 1 (w.heap.size+1) 42 aab (dM D2 true 0) rfl;rw[Jf] at v2;have v3:=v2.put 2 (w.heap.size+1+1) 24 bF (H.map bv) rfl;rw[SA] at v3;have t1:=aL Y w.heap.size _ _ (dM D1 true 0) (Lu.o.cell (w.heap.size,42,aab) (by simp[vM])) (by rw[vg];exact ix.symm) (jL D1 true 0);rw[Sz] at t1;have t2:=aL Z1 (w.heap.size+1) _ _ (dM D2 true 0) (v1.cell (w.heap.size+1,42,aab) (by simp[vM])) (by rw[Au];exact ix.symm) (jL D2 true 0);rw[Jf] at t2;have t3:=aL Z2 (w.heap.size+1+1) _ _ (H.map bv) (v2.cell (w.heap.size+1+1,24,bF) (by simp[vM])) (by simp[lH,bF]) (bd H);rw[SA] at t3;have G1:ae (nL w.heap.size Y Z1):=by rw[←Sz];exact nL.setRow _ _ _ _ (.inl rfl)
   have G2:ae (nL w.heap.size Z1 Z2):=by rw[←Jf];exact nL.setRow _ _ _ _ (.inr (.inl rfl))
   have G3:ae (nL w.heap.size Z2 Z3):=by rw[←SA];exact nL.setRow _ _ _ _ (.inr (.inr rfl))
   have R1:=aj (v3.cell (w.heap.size,42,dM D1 true 0) (by simp[vM]));have R2:=aj (v3.cell (w.heap.size+1,42,dM D2 true 0) (by simp[vM]));have R3:=aj (v3.cell (w.heap.size+1+1,24,H.map bv) (by simp[vM]));have bR:=aj v3.aY;have HEE:=aj (And.intro e1 e2);have hlH:(H.map bv).length=32:=by simp[lH]
   clear Sz Jf SA v1 v2 v3 e1 e2;clear gY xA
   go_wp2_with fail
   clear s1 s2 q9;refine ah (G:=nL w.heap.size) (by kernel_rfl) (nL.refl _) (nL.trans _) (by kernel_rfl) [(0,true),(1,true),(2,true),(3,true),(4,true),(5,true),(6,true),(7,true),(8,false),(9,false),(10,false),(11,true)] rfl (by kernel_rfl) ?_;intro KK cA;rw[yV.o];refine aa rfl (by rfl) (v:=.agg (dM D1 true 0).toArray) (λw' hw'=>ar 42 _ rfl p rfl 42 _ (0,0) _ (HL1.o w' hw') underlying42 rfl O1.o) ?_;go_simp
   refine aa rfl (by rfl) (v:=.agg (dM D2 true 0).toArray) (λw' hw'=>ar 42 _ rfl (p+1) rfl 42 _ (0,0) _ (Ja.o w' hw') underlying42 rfl uy.o) ?_;go_simp
   iterate 5 (refine aa rfl (by rfl) (v:=?_) ?_ ?_;rotate_left;(intro w' hw';clear hw';go_simp;with_reducible rfl);go_simp)
   refine aa rfl (by rfl) (v:=.agg (H.map bv).toArray) (λw' hw'=>bE 24 _ rfl g 32 rfl (H.map bv) _ (HLH.o w' hw') underlying24 rfl HIH.o) ?_;go_simp
   refine bu rfl (by rfl) (w':=Z1) (by go_simp) G1.out ?_;clear t1;go_simp
   refine bu rfl (by rfl) (w':=Z2) (by go_simp) G2.out ?_;clear t2;go_simp
   refine bu rfl (by rfl) (w':=Z3) (by go_simp) G3.out ?_;clear t3;go_simp
   iterate 1 (refine aa rfl (by rfl) (v:=?_) ?_ ?_;rotate_left;(intro w' hw';clear hw';go_simp;with_reducible rfl);go_simp)
   refine az cA ?_;clear cA
   (try go_wp2)
   (try simp only[nu,Exit.then])
   refine bodyPost_ret (sK rfl _ _ w.heap.size (w.heap.size+1) (w.heap.size+1+1) 42 24 _ _ _ _ _ _ rfl rfl rfl rfl R1.out R2.out R3.out underlying42 rfl underlying24 rfl O1.o uy.o adQ.o) rfl ?_;exact⟨by rw[HEE.o.1,HEE.o.2];rfl,bR.o⟩
  |false=>
   have gY:x.code=6:=by unfold NS.code;rw[h2,xA];rfl
   rw[gY] at q9;have e1:S1=D2:=by rw[←Zn.o.1,←HD.o.2.1];unfold NS.wU;rw[if_neg (by rw[xA];decide)]
   have e2:S2=D1:=by rw[←Zn.o.2,←HD.o.1];unfold NS.wV;rw[if_neg (by rw[xA];decide)]
   obtain⟨Z1,Sz⟩:∃Z,Y.setRow w.heap.size (dM D2 true 0).toArray=Z:=⟨_,rfl⟩;obtain⟨Z2,Jf⟩:∃Z,Z1.setRow (w.heap.size+1) (dM D1 true 0).toArray=Z:=⟨_,rfl⟩;obtain⟨Z3,SA⟩:∃Z,Z2.setRow (w.heap.size+1+1) (H.map bv).toArray=Z:=⟨_,rfl⟩;have v1:=Lu.o.put 0 w.heap.size 42 aab (dM D2 true 0) rfl;rw[Sz] at v1;have v2:=v1.put 1 (w.heap.size+1) 42 aab (dM D1 true 0) rfl;rw[Jf] at v2;have v3:=v2.put 2 (w.heap.size+1+1) 24 bF (H.map bv) rfl;rw[SA] at v3;have t1:=aL Y w.heap.size _ _ (dM D2 true 0) (Lu.o.cell (w.heap.size,42,aab) (by simp[vM])) (by rw[Au];exact ix.symm) (jL D2 true 0);rw[Sz] at t1;have t2:=aL Z1 (w.heap.size+1) _ _ (dM D1 true 0) (v1.cell (w.heap.size+1,42,aab) (by simp[vM])) (by rw[vg];exact ix.symm) (jL D1 true 0);rw[Jf] at t2;have t3:=aL Z2 (w.heap.size+1+1) _ _ (H.map bv) (v2.cell (w.heap.size+1+1,24,bF) (by simp[vM])) (by simp[lH,bF]) (bd H);rw[SA] at t3;have G1:ae (nL w.heap.size Y Z1):=by rw[←Sz];exact nL.setRow _ _ _ _ (.inl rfl)
   have G2:ae (nL w.heap.size Z1 Z2):=by rw[←Jf];exact nL.setRow _ _ _ _ (.inr (.inl rfl))
   have G3:ae (nL w.heap.size Z2 Z3):=by rw[←SA];exact nL.setRow _ _ _ _ (.inr (.inr rfl))
   have R1:=aj (v3.cell (w.heap.size,42,dM D2 true 0) (by simp[vM]));have R2:=aj (v3.cell (w.heap.size+1,42,dM D1 true 0) (by simp[vM]));have R3:=aj (v3.cell (w.heap.size+1+1,24,H.map bv) (by simp[vM]));have bR:=aj v3.aY;have HEE:=aj (And.intro e1 e2);have hlH:(H.map bv).length=32:=by simp[lH]
   clear Sz Jf SA v1 v2 v3 e1 e2;clear gY xA
   go_wp2_with fail
   clear s1 s2 q9;refine ah (G:=nL w.heap.size) (by kernel_rfl) (nL.refl _) (nL.trans _) (by kernel_rfl) [(0,true),(1,true),(2,true),(3,true),(4,true),(5,true),(6,true),(7,true),(8,false),(9,false),(10,false),(11,true)] rfl (by kernel_rfl) ?_;intro KK cA;rw[yV.o];refine aa rfl (by rfl) (v:=.agg (dM D2 true 0).toArray) (λw' hw'=>ar 42 _ rfl (p+1) rfl 42 _ (0,0) _ (Ja.o w' hw') underlying42 rfl uy.o) ?_;go_simp
   refine aa rfl (by rfl) (v:=.agg (dM D1 true 0).toArray) (λw' hw'=>ar 42 _ rfl p rfl 42 _ (0,0) _ (HL1.o w' hw') underlying42 rfl O1.o) ?_;go_simp
   iterate 5 (refine aa rfl (by rfl) (v:=?_) ?_ ?_;rotate_left;(intro w' hw';clear hw';go_simp;with_reducible rfl);go_simp)
   refine aa rfl (by rfl) (v:=.agg (H.map bv).toArray) (λw' hw'=>bE 24 _ rfl g 32 rfl (H.map bv) _ (HLH.o w' hw') underlying24 rfl HIH.o) ?_;go_simp
   refine bu rfl (by rfl) (w':=Z1) (by go_simp) G1.out ?_;clear t1;go_simp
   refine bu rfl (by rfl) (w':=Z2) (by go_simp) G2.out ?_;clear t2;go_simp
   refine bu rfl (by rfl) (w':=Z3) (by go_simp) G3.out ?_;clear t3;go_simp
   iterate 1 (refine aa rfl (by rfl) (v:=?_) ?_ ?_;rotate_left;(intro w' hw';clear hw';go_simp;with_reducible rfl);go_simp)
   refine az cA ?_;clear cA
   (try go_wp2)
   (try simp only[nu,Exit.then])
   refine bodyPost_ret (sK rfl _ _ w.heap.size (w.heap.size+1) (w.heap.size+1+1) 42 24 _ _ _ _ _ _ rfl rfl rfl rfl R1.out R2.out R3.out underlying42 rfl underlying24 rfl uy.o O1.o adQ.o) rfl ?_;exact⟨by rw[HEE.o.1,HEE.o.2];rfl,bR.o⟩
theorem RJ (g:Nat)(x:NS)(w:aw)(h:ju w g x)(hT:TT w)(h2:x.st≠2):
  Calls prog 19 #[.pointer (some ⟨g,0,none⟩)] w λe w'=>e= .returned (.tuple #[.agg aab.toArray,.agg aab.toArray,.agg bF.toArray,.int .i64 10])∧Below w.heap.size w w':=by
 obtain⟨seen,hs⟩:=h;have oa:=hs.sd.lt;have HS:=aj hs.sd;have HT:=aj hT;have gC:ae (Vw w (((w.alloc (.cells aab.toArray 42)).alloc (.cells aab.toArray 42)).alloc (.cells bF.toArray 24)) (vM w)):=by have h:=(((Vw.none w).alloc 42 aab).alloc 42 aab).alloc 24 bF;simp only[fx] at h;exact h
 obtain⟨D1,sT⟩:∃D,gH x.M.C []=D:=⟨_,rfl⟩;obtain⟨D2,xj⟩:∃D,nS x.M.C []=D:=⟨_,rfl⟩;obtain⟨H,hH⟩:=aW (x.M.H);have l1:D1.length=32:=by rw[←sT];exact cS _ _
 have l2:D2.length=32:=by rw[←xj];exact cS _ _
 have lH:H.length=32:=by rw[←hH];exact hs.sd.mi.h
 have HD:=aj (And.intro sT (And.intro xj hH));have O1:=aj (gF D1 true 0 l1);have uy:=aj (gF D2 true 0 l2);have HIH:=aj (rC lH);have adQ:=aj (wR lH);have tr:¬(x.code:Int)=3∧¬(x.code:Int)=6:=by have h1:=hs.st;unfold NS.code;cases x.bP<;>simp<;>split<;>omega
 obtain⟨tr,Sj⟩:=tr;clear hs hT sT xj hH
 go_enter func19,ntmps19
 refine wp_seq (wp_cut (λa W=>a={tmps:=#[.pointer (some ⟨g,0,none⟩),ag,.pointer (some ⟨w.heap.size,0,none⟩),.pointer (some ⟨w.heap.size+1,0,none⟩),.pointer (some ⟨w.heap.size+1+1,0,none⟩),.int .i64 0,ag,ag,ag,ag,ag,ag,ag,ag,ag,ag,ag,ag,ag,ag,ag,ag,ag,ag,ag,ag,ag,ag,ag,ag,ag,ag,ag,ag,ag,ag,ag,ag,ag,ag,ag,ag,ag],defers:=[]}∧ae (Vw w W (vM w))) ?_ ?_)
 ·go_wp2
  all_goals first|exact gC|exact⟨rfl,gC⟩|exact⟨rfl,rfl,gC⟩
 ·rintro a W0 ⟨rfl,HV⟩;simp only[Exit.then];clear gC
  go_wp2_with fail
  refine(Ea g 64 (BE x.own x.once x.S seen++[.int .i64 (x.code:Int)]) x.M.C x.M.H x.M.K x.M.has x.M.n W0 (HS.o.later HV.o.aY).mi (HT.o.later HV.o.aY).1).mono ?_;rintro e w1 ⟨rfl,ck⟩;rw[HD.o.1,HD.o.2.1];obtain⟨X1,X2,s1,s2,gi,jM,rV⟩:=GG w1 D1 D2 true true 0 0 l1 l2;simp only[zo] at s1 s2;have Jj:=aj ((HV.o.later ck).later rV);have q9:=(HS.o.later Jj.o.aY).next;clear gi jM rV ck HV;have vg:(dM D1 true 0).length=34:=by rw[dK,l1]
  have Au:(dM D2 true 0).length=34:=by rw[dK,l2]
  have v1:=Jj.o.put 0 w.heap.size 42 aab aab rfl;have v2:=v1.put 1 (w.heap.size+1) 42 aab aab rfl;have v3:=v2.put 2 (w.heap.size+1+1) 24 bF bF rfl;have P1:=aj (Jj.o.cell (w.heap.size,42,aab) (by simp[vM]));have P2:=aj (v1.cell (w.heap.size+1,42,aab) (by simp[vM]));have P3:=aj (v2.cell (w.heap.size+1+1,24,bF) (by simp[vM]));have R1:=aj (v3.cell (w.heap.size,42,aab) (by simp[vM]));have R2:=aj (v3.cell (w.heap.size+1,42,aab) (by simp[vM]));have R3:=aj (v3.cell (w.heap.size+1+1,24,bF) (by simp[vM]));have bR:=aj v3.aY;have HIC:ae ((prog.info? 42).map (·.size)=some aab.toArray.size):=gF (cz 32 0) false 0 rfl;have HIK:ae ((prog.info? 24).map (·.size)=some bF.toArray.size):=wR (l:=cz 32 0) rfl;have jC:ae (aab.toArray.all (·.oneCell')=true):=by show _=_;kernel_rfl
  have gM:ae (bF.toArray.all (·.oneCell')=true):=by show _=_;kernel_rfl
  clear v1 v2 v3
  go_wp2_with (first|refine wpList_store_row rfl 42 (.tmp 2) (.tmp 40) rfl w.heap.size aab.toArray rfl rfl 42 _ P1.out HIC.o rfl jC.o ?_|refine wpList_store_row rfl 42 (.tmp 3) (.tmp 41) rfl (w.heap.size+1) aab.toArray rfl rfl 42 _ P2.out HIC.o rfl jC.o ?_|refine wpList_store_row rfl 24 (.tmp 4) (.tmp 42) rfl (w.heap.size+1+1) bF.toArray rfl rfl 24 _ P3.out HIK.o rfl gM.o ?_|fail)
  (try simp only[nu,Exit.then])
  refine bodyPost_ret (sK rfl _ _ w.heap.size (w.heap.size+1) (w.heap.size+1+1) 42 24 _ _ _ _ _ _ rfl rfl rfl rfl R1.out R2.out R3.out underlying42 rfl underlying24 rfl HIC.o HIC.o HIK.o) rfl ?_;exact⟨rfl,bR.o⟩
namespace NS
theorem aa0 (x:NS)(t:aO)(h:dv x=0):first x t=⟨(f2 x).d9 t,x.own,x.once,x.R,x.S,x.bP,1⟩:=by unfold first;rw[if_pos h]
def Zo (name gj own other once t:aO):NS:=first (jn name gj own (bN other) once) t
def agX (name gj own other once t:aO):aO:=dV (jn name gj own (bN other) once) t
def bg1 (name gj own other once one t:aO):NS:=mh (answer name gj other one) (agX name gj own other once t)
def VH (name gj own other once one t t2:aO):NS:=second (bg1 name gj own other once one t) t2
def agZ (name gj own other once one t t2:aO):aO:=dm (bg1 name gj own other once one t) t2
def ag2 (name gj own other once one t t2:aO):NS:=done (Zo name gj own other once t) (agZ name gj own other once one t t2)
structure adR (name gj own other once one t t2:aO):Prop where
 e1:dv (jn name gj own (bN other) once)=0
 l1:(agX name gj own other once t).length=96+t.length
 e2:dD (answer name gj other one) (agX name gj own other once t)=0
 o2:jI (answer name gj other one) (agX name gj own other once t)=t
 e3:dn (bg1 name gj own other once one t)=0
 l3:(agZ name gj own other once one t t2).length=48+t2.length
 e4:eJ (Zo name gj own other once t) (agZ name gj own other once one t t2)=0
 o4:jo (Zo name gj own other once t) (agZ name gj own other once one t t2)=t2
 m:(ag2 name gj own other once one t t2).M=(VH name gj own other once one t t2).M
 sa:(ag2 name gj own other once one t t2).st=2
 sb:(VH name gj own other once one t t2).st=2
 ta:(ag2 name gj own other once one t t2).bP=true
 tb:(VH name gj own other once one t t2).bP=false
 Sa:(ag2 name gj own other once one t t2).S=bN other
 Sb:(VH name gj own other once one t t2).S=bN own
 ch:(VH name gj own other once one t t2).M.C=gH (gH (gH (gH (dU name) (eH once (bN other))) (eH own (bN other))) (eH one (bN once))) (eH one (bN own))
theorem adS (name gj own other once t:aO)(h1:mK once (bN other)≠0)(h2:mK own (bN other)≠0):Zo name gj own other once t=⟨(f2 (jn name gj own (bN other) once)).d9 t,own,once,[],bN other,true,1⟩:=by unfold Zo;rw[aa0 _ t (CU name gj own other once h1 h2)];simp only[jn]
theorem adT (name gj own other once one t:aO)(D:DH own other once one):bg1 name gj own other once one t=⟨(Zo name gj own other once t).M,other,one,bN once,bN own,false,1⟩:=(CV name gj own other once one t D).2.2.1
theorem adU (M:MS)(own other once one t2:aO)(h:dn ⟨M,other,one,bN once,bN own,false,1⟩=0):second ⟨M,other,one,bN once,bN own,false,1⟩ t2=⟨(s1 ⟨M,other,one,bN once,bN own,false,1⟩).d9 t2,other,one,bN once,bN own,false,2⟩:=by unfold second;rw[if_pos h]
theorem Zp (x:NS)(z:aO)(h:eJ x z=0):(done x z).st=2∧(done x z).bP=x.bP∧(done x z).S=x.S:=by unfold done;rw[if_pos h];exact⟨rfl,rfl,rfl⟩
theorem VI (M:MS)(own other once one:aO):(s1 ⟨M,other,one,bN once,bN own,false,1⟩).C=gH (gH M.C (eH one (bN once))) (eH one (bN own)):=by simp only[s1,MS.key,MS.hash]
theorem VJ (name gj own other once:aO):(f2 (jn name gj own (bN other) once)).C=gH (gH (dU name) (eH once (bN other))) (eH own (bN other)):=by simp only[f2,f1,MS.key,MS.hash,MS.d9,jn,MS.start]
theorem adV (name gj own other once one t t2:aO)(D:DH own other once one):adR name gj own other once one t t2:=by
 have hh:=CV name gj own other once one t D;have hf:=CU name gj own other once D.o1 D.o2;have JE:=adS name gj own other once t D.o1 D.o2;have ck:=adT name gj own other once one t D;obtain⟨M,hM⟩:=aW ((f2 (jn name gj own (bN other) once)).d9 t);rw[hM] at JE;rw[JE] at ck;obtain⟨k1,k2,k3,k4,k5,k6,k7⟩:=JL M own other once one t2 D;have MX:bg1 name gj own other once one t=⟨M,other,one,bN once,bN own,false,1⟩:=ck;have hz:agZ name gj own other once one t t2=dm ⟨M,other,one,bN once,bN own,false,1⟩ t2:=by unfold agZ;rw[MX]
 have Gn:ag2 name gj own other once one t t2=done ⟨M,own,once,[],bN other,true,1⟩ (dm ⟨M,other,one,bN once,bN own,false,1⟩ t2):=by unfold ag2;rw[JE,hz]
 have cM:VH name gj own other once one t t2=second ⟨M,other,one,bN once,bN own,false,1⟩ t2:=by unfold VH;rw[MX]
 have eZ:=adU M own other once one t2 k1;obtain⟨d1,d2,d3⟩:=Zp _ _ k2;refine⟨hf,hh.2.2.2,hh.1,hh.2.1,by rw[MX];exact k1,by rw[hz];exact k7,by rw[JE,hz];exact k2,by rw[JE,hz];exact k3,by rw[Gn,cM];exact k4,by rw[Gn];exact d1,by rw[cM];exact k6,by rw[Gn];exact d2,by rw[cM,eZ],by rw[Gn];exact d3,by rw[cM,eZ],?_⟩;rw[cM,eZ];show(s1 ⟨M,other,one,bN once,bN own,false,1⟩).C=_;rw[VI,←hM];show gH (gH (f2 (jn name gj own (bN other) once)).C (eH one (bN once))) (eH one (bN own))=_;rw[VJ]
end NS
structure Du (w W:aw)(s ga gb:Nat)(x y:NS):Prop where
 aY:Below w.heap.size w W
 a1:w.heap.size≤ga
 a2:ga<s
 b1:w.heap.size≤gb
 b2:gb<s
 ne:ga≠gb
 sz:s≤W.heap.size
 a:ju W ga x
 b:ju W gb y
 t:TT w
section
variable {w W W':aw} {s ga gb:Nat} {x y x':NS}
theorem Du.later (D:Du w W s ga gb x y)(hb:Below W.heap.size W W'):Du w W' s ga gb x y:=
 ⟨D.aY.trans (hb.mono D.aY.size),D.a1,D.a2,D.b1,D.b2,D.ne,kx D.sz hb.size,D.a.later hb,D.b.later hb,D.t⟩
theorem Du.tab (D:Du w W s ga gb x y):TT W:=D.t.later D.aY
theorem Du.ka (D:Du w W s ga gb x y):E7 ga:=D.t.new D.a1
theorem Du.kb (D:Du w W s ga gb x y):E7 gb:=D.t.new D.b1
theorem Du.left (D:Du w W s ga gb x y)(hG:W.grownBy W' (some ga))(h:ju W' ga x'):Du w W' s ga gb x' y:=
 ⟨dI D.aY hG D.a1,D.a1,D.a2,D.b1,D.b2,D.ne,kx D.sz hG.size,h,D.b.but hG (λe=>D.ne e.symm),D.t⟩
theorem Du.right (D:Du w W s ga gb x y)(hG:W.grownBy W' (some gb))(h:ju W' gb x'):Du w W' s ga gb x x':=
 ⟨dI D.aY hG D.b1,D.a1,D.a2,D.b1,D.b2,D.ne,kx D.sz hG.size,D.a.but hG D.ne,h,D.t⟩
theorem z9 {v:Value}{n g:Nat}{xs:bK}(h:W.ownsRow s 5 1 v n xs)(hG:W.grownBy W' (some g))(hg:g<s):W'.ownsRow s 5 1 v n xs:=
 cT h hG (λb' cU e=>by have:=(aad h b' cU).1;cases e;omega)
theorem kq {v:Value}{n:Nat}{xs:bK}(h:W.ownsRow s 5 1 v n xs)(hb:Below W.heap.size W W'):W'.ownsRow s 5 1 v n xs:=
 cT h (cG hb) (λb' _ e=>by cases e)
theorem xm {v:Value}{n:Nat}{l:aO}(h:W.ownsRow s 5 1 v n (l.map bv)):
  ∃a cap,v= .slice a n cap∧bj W a n l∧n≤cap∧cap≤maxLen∧(a=none→cap=0)∧(∀z o f,a=some ⟨z,o,f⟩→z<W.heap.size)∧(∀z o f,a=some ⟨z,o,f⟩→s≤z)∧l.length=n:=by
 obtain⟨a,cap,rfl,h1,h2,h3,h4⟩:=bq h;refine⟨a,cap,rfl,h1,h2,h3,h4,λz o f e=>?_,λz o f e=>?_,h1.1⟩
 ·subst e
  rcases h.2 with⟨e',_⟩|⟨g,cK,cur,e',hb,hg,_⟩
  ·cases e'
  ·cases e'
   exact(gD.1 hg).1
 ·have:=YK h z (by rw[e];rfl);exact this
theorem Du.VK (D:Du w W s ga gb x y){e:Ending}{er:Nat}{out:aO}(h:Jm W W' ga e er x' out):
  ∃v q,e= .returned (.tuple #[v,.int .i64 (er:Int)])∧Du w W' s ga gb x' y∧W'.ownsRow s 5 1 v q ((if er=0 then out else[]).map bv)∧W.grownBy W' (some ga):=by
 unfold Jm at h;obtain⟨v,q,he,hG,hI,ho⟩:=h;exact⟨v,q,he,D.left hG hI,bQ ho D.sz,hG⟩
theorem Du.aaU (D:Du w W s ga gb x y){e:Ending}{er:Nat}{out:aO}(h:Jm W W' gb e er x' out):
  ∃v q,e= .returned (.tuple #[v,.int .i64 (er:Int)])∧Du w W' s ga gb x x'∧W'.ownsRow s 5 1 v q ((if er=0 then out else[]).map bv)∧W.grownBy W' (some gb):=by
 unfold Jm at h;obtain⟨v,q,he,hG,hI,ho⟩:=h;exact⟨v,q,he,D.right hG hI,bQ ho D.sz,hG⟩
end
theorem Lv {w:aw}{a:bW}{len cap:Nat}{zs:List Int}(h:xI .u8 w a len cap zs):a=none→cap=0:=λe=>by
 rcases h with⟨_,_,h1,_⟩|⟨x,e2,_⟩
 ·exact h1
 ·rw[e] at e2;cases e2
end Go.Proofs.YtkdpblbhcfhagaaGreatDoor
