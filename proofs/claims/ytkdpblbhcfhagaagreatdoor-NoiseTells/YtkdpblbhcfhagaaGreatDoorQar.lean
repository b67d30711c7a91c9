import Derived.Test.YtkdpblbhcfhagaaGreatDoorQal
namespace Go.Proofs.YtkdpblbhcfhagaaGreatDoor
open Go.Proofs.Tryz
open _root_.Nat renaming le_refl → di, le_trans → kx, lt_of_lt_of_le → tV
open Go.RowKit.Below renaming refl → bZ, heap_alloc → jE
open Go.World renaming size_alloc → fx
open _root_.Array renaming getElem?_eq_some_iff → gD
open Go renaming undef → ag, World → aw, heap_alloc_new → eC
open _root_.List renaming replicate → cz, not_mem_nil → nj, mem_cons → mg, take_of_length_le → su
open Go.Exit renaming inBlock → nu
set_option maxHeartbeats 64000000
set_option linter.unusedVariables false
set_option maxRecDepth 100000
open Go.RowKit
structure eE (a b:Nat)(w w':aw):Prop where
 os:w'.os=w.os
 tape:w'.tape=w.tape
 output:w'.output=w.output
 size:w.heap.size≤w'.heap.size
 block:∀k,k<w.heap.size→k≠a→k≠b→w'.heap[k]?=w.heap[k]?
section
variable {a b:Nat} {w w' RI:aw}
theorem eE.refl (a b:Nat)(w:aw):eE a b w w:=⟨rfl,rfl,rfl,di _,λ_ _ _ _=>rfl⟩
theorem eE.trans (h:eE a b w w')(k:eE a b w' RI):eE a b w RI:=
 ⟨k.os.trans h.os,k.tape.trans h.tape,k.output.trans h.output,kx h.size k.size,λi hi h1 h2=>(k.block i (tV hi h.size) h1 h2).trans (h.block i hi h1 h2)⟩
theorem eE.left (h:w.grownBy w' (some a)):eE a b w w':=⟨h.os,h.tape,h.output,h.size,λk hk h1 _=>h.block k hk (λe=>h1 (by cases e;rfl))⟩
theorem eE.right (h:w.grownBy w' (some b)):eE a b w w':=⟨h.os,h.tape,h.output,h.size,λk hk _ h2=>h.block k hk (λe=>h2 (by cases e;rfl))⟩
theorem eE.below (h:Below w.heap.size w w'):eE a b w w':=⟨h.os,h.tape,h.output,h.size,λk hk _ _=>h.block k hk⟩
theorem eE.aY {B:Nat}(h:Below B w w')(k:eE a b w' RI)(ha:B≤a)(hb:B≤b)(hB:B≤w'.heap.size):Below B w RI:=
 ⟨k.os.trans h.os,k.tape.trans h.tape,k.output.trans h.output,kx h.size k.size,λi hi=>(k.block i (by omega) (by omega) (by omega)).trans (h.block i hi)⟩
theorem eE.nw {p:bW}{n:Nat}{l:aO}(h:bj w p n l)(k:eE a b w w')(eL:0<n→∀x o f,p=some ⟨x,o,f⟩→x≠a∧x≠b):bj w' p n l:=by
 by_cases h0:n=0
 ·exact⟨h.1,.inl h0⟩
 rcases h.2 with h1|⟨x,off,rfl,hc⟩
 ·exact⟨h.1,.inl h1⟩
 ·obtain⟨e1,e2⟩:=eL (by omega) x off none rfl;have dN:=h.lt (by omega);refine⟨h.1,.inr ⟨x,off,rfl,λi hi=>?_⟩⟩;rw[World.cell?_of_block (k.block x dN e1 e2)];exact hc i hi
theorem eE.row {g:Nat}{o:Obj}(h:w.heap[g]?=some o)(k:eE a b w w')(h1:g≠a)(h2:g≠b):w'.heap[g]?=some o:=by rw[k.block g (gD.1 h).1 h1 h2];exact h
end
theorem VL {α:Type}(L:List α)(i:Nat)(v:α)(h:L[i]?=some v):L.set i v=L:=by
 apply List.ext_getElem?;intro j;rw[List.getElem?_set]
 by_cases e:i=j
 ·subst e;rw[if_pos rfl,h];have:i<L.length:=(List.getElem?_eq_some_iff.1 h).1;simp[this]
 ·rw[if_neg e]
theorem kr {w:aw}{g:Nat}{L:bK}{t:TypeId}(h:w.heap[g]?=some (.cells L.toArray t (0,0)))(i:Nat)(v:Value):(w.setCell ⟨g,i,none⟩ v).heap[g]?=some (.cells (L.set i v).toArray t (0,0)):=by rw[heap_setCell_same w g i _ _ _ h];simp
theorem dB {w:aw}{g:Nat}{L:bK}{t:TypeId}(h:w.heap[g]?=some (.cells L.toArray t (0,0))){i:Nat}{v:Value}(hi:L[i]?=some v):w.cell? ⟨g,i,none⟩=some v:=by
 rw[cell_of_row w g i _ _ (0,0) h]
 simpa using hi
theorem ks {w w':aw}{g:Nat}{o:Obj}(h:w.heap[g]?=some o)(hb:Below w.heap.size w w'):w'.heap[g]?=some o:=by rw[hb.block g (gD.1 h).1];exact h
structure RC (w:aw)(g off t:Nat)(L:bK)(kb eh kc:Nat)(key:aO)(has:Bool)(n:Nat):Prop where
 row:w.heap[g]?=some (.cells L.toArray t (0,0))
 k:L[off]?=some (.slice (some ⟨kb,eh,none⟩) 32 kc)
 h:L[off+1]?=some (.bool has)
 n:L[off+2]?=some (.int .u64 (n:Int))
 lo:32≤kc
 hi:kc≤9223372036854775807
 key:bj w (some ⟨kb,eh,none⟩) 32 key
 ne:kb≠g
theorem RC.lt {w:aw}{g off t:Nat}{L:bK}{kb eh kc:Nat}{key:aO}{has:Bool}{n:Nat}(x:RC w g off t L kb eh kc key has n):g<w.heap.size:=(gD.1 x.row).1
theorem RC.later {w w':aw}{g off t:Nat}{L:bK}{kb eh kc:Nat}{key:aO}{has:Bool}{n:Nat}(x:RC w g off t L kb eh kc key has n)(hb:Below w.heap.size w w'):RC w' g off t L kb eh kc key has n:=
 ⟨ks x.row hb,x.k,x.h,x.n,x.lo,x.hi,x.key.later hb,x.ne⟩
theorem RC.cells {w:aw}{g off t:Nat}{L:bK}{kb eh kc:Nat}{key:aO}{has:Bool}{n:Nat}(x:RC w g off t L kb eh kc key has n):
  w.cell? ⟨g,off,none⟩=some (.slice (some ⟨kb,eh,none⟩) 32 kc)∧w.cell? ⟨g,off+1,none⟩=some (.bool has)∧w.cell? ⟨g,off+2,none⟩=some (.int .u64 (n:Int))∧w.frozen? ⟨g,off+2,none⟩=false∧w.frozen? ⟨g,off,none⟩=false:=
 ⟨dB x.row x.k,dB x.row x.h,dB x.row x.n,frozen_of_row w g _ _ _ x.row,frozen_of_row w g _ _ _ x.row⟩
theorem RC.Qd {w:aw}{g off t:Nat}{L:bK}{kb eh kc:Nat}{key:aO}{has:Bool}{n:Nat}(x:RC w g off t L kb eh kc key has n)(m:Nat):
  RC (w.setCell ⟨g,off+2,none⟩ (.int .u64 (m:Int))) g off t (L.set (off+2) (.int .u64 (m:Int))) kb eh kc key has m:=by
 have hl:off+2<L.length:=(List.getElem?_eq_some_iff.1 x.n).1;refine⟨kr x.row _ _,?_,?_,?_,x.lo,x.hi,x.key.but (bI.setCell w g _ _) x.ne,x.ne⟩
 ·rw[List.getElem?_set_ne (by omega)];exact x.k
 ·rw[List.getElem?_set_ne (by omega)];exact x.h
 ·rw[List.getElem?_set_self (by omega)]
theorem RC.same {w:aw}{g off t:Nat}{L:bK}{kb eh kc:Nat}{key:aO}{has:Bool}{n:Nat}(x:RC w g off t L kb eh kc key has n):RC w g off t (L.set (off+2) (.int .u64 (n:Int))) kb eh kc key has n:=by rw[VL _ _ _ x.n];exact x
theorem Iu (g off t:Nat)(L:bK)(kb eh kc:Nat)(key:aO)(has:Bool)(n:Nat)(a:bW)(la ca:Nat)(ad:aO)(c:bW)(lc cc:Nat)(b:aO)(w:aw)
  (hR:RC w g off t L kb eh kc key has n) (hn:n≤18446744073709551615) (hA:bj w a la ad) (Co:a=none→ca=0) (hC:bj w c lc b) (O0:c=none→cc=0) (EU:la≤1000) (ig:lc≤1000) (kZ:lc≤cc) (m7:cc≤maxLen):
  Calls prog 62 #[.pointer (some ⟨g,off,none⟩),.slice a la ca,.slice c lc cc] w λe w'=>∃v,e= .returned (.tuple #[v,.int .i64 ((sw has n:Nat):Int)])∧w.grownBy w' (some g)∧RC w' g off t (L.set (off+2) (.int .u64 ((uh has n:Nat):Int))) kb eh kc key has (uh has n)∧∃m,w'.ownsRow w.heap.size 5 1 v m ((oP key has n ad b).map bv):=by
 have kW:=hC.1;have oa:=hR.lt;have HR:ae (RC w g off t L kb eh kc key has n):=hR;have HA:ae (bj w a la ad):=hA;have HC:ae (bj w c lc b):=hC;obtain⟨q1,q2,q3,_,_⟩:=hR.cells;clear hR hA hC;cases has with
 |false=>
  have iz:Below w.heap.size w (w.alloc (.cells #[] 5)):=eF;obtain⟨v1,w1,lj,cH,uB⟩:=bx (w.alloc (.cells #[] 5)) w.heap.size (.slice (some ⟨w.heap.size,0,none⟩) 0 0) 0 [] (World.ownsRow_made w #[] 0 (di _) (Nat.zero_le _) rfl) c lc cc b (HC.o.later iz) O0 (by simp) (by omega);have fU:ae (Below w.heap.size w w1):=iz.grown uB (by simp) (λk hk=>by simp[Value.ownBlock] at hk;omega);rw[Nat.zero_add,List.nil_append] at cH;have f8:=ak cH;have OX:ae _:=lj;clear lj cH uB iz
  go_enter func62,ntmps62
  go_wp2_with (at_builtin;refine ao rfl (.tmp 14) (.tmp 15) 22 rfl _ _ _ _ rfl rfl OX.o ?_)
  go_ret2
  exact⟨_,rfl,bI.below g fU.o,(HR.o.later fU.o).same,_,f8.o⟩
 |true=>
  by_cases eL:n=18446744073709551615
  ·subst eL
   go_enter func62,ntmps62
   go_wp2
   go_ret2
   exact⟨_,rfl,cR _ _,HR.o.same,0,⟨rfl,.inl ⟨rfl,rfl⟩⟩⟩
  ·have anp:¬(n:Int)=18446744073709551615:=by omega
   have e1:sw true n=0:=by simp[sw,gf,eL]
   have e2:uh true n=n+1:=by simp[uh,gf,eL]
   have e3:oP key true n ad b=ku key (d7 n) ad b:=by simp[oP,gf,eL]
   rw[e1,e2,e3];clear e1 e2 e3
   go_enter func62,ntmps62
   go_wp2
   obtain⟨W,hW⟩:=aW (w.drew);have cL:Below w.heap.size w W:=by rw[←hW];exact gl
   have oZ:=ak cL;have pZ:=ak (HR.o.later cL);have Bp:ae (∀w',bM W w'→w'.cell? ⟨g,off,none⟩=some (.slice (some ⟨kb,eh,none⟩) 32 kc)∧w'.cell? ⟨g,off+2,none⟩=some (.int .u64 (n:Int))):=λw' hw'=>by obtain⟨c1,_,c3,_⟩:=(pZ.o.later hw').cells;exact⟨c1,c3⟩
   have MY:ae (w.drew=W):=hW;clear hW cL q1 q2 q3;refine ah (G:=bM) (by kernel_rfl) bM.refl bM.trans (by kernel_rfl) [(0,true),(1,true),(2,true),(3,true),(4,true),(5,true),(6,true),(7,true),(9,true),(10,true),(8,false),(11,false),(12,true)] rfl (by kernel_rfl) ?_;intro KK cA;rw[MY.out]
   iterate 10 (refine aa rfl (by rfl) (v:=?_) ?_ ?_;rotate_left;(intro w' hw';obtain⟨q1,q2⟩:=Bp.o w' hw';clear hw';go_simp;with_reducible rfl);go_simp)
   refine aU (f:=91) (args:=#[.int .u64 (n:Int)]) rfl (by rfl) (by go_simp) ?_;refine(zG n (by omega) W).mono ?_;rintro e w2 ⟨nb,nc,rfl,cM,adW,adX,rN⟩;refine⟨_,rfl,cM,?_⟩;have yl:=ak rN;have fw:=ak (oZ.o.trans (cM.mono oZ.o.size));have AD:=ak (pZ.o.later cM);clear cM rN pZ oZ Bp;go_simp
   refine aU (f:=90) (args:=#[.slice (some ⟨kb,eh,none⟩) 32 kc,.slice (some ⟨nb,0,none⟩) 12 nc,.slice a la ca,.slice c lc cc]) rfl (by rfl) (by go_simp) ?_;refine(Kn kb eh nb 0 kc nc key (d7 n) a la ca ad c lc cc b w2 AD.o.lo adW AD.o.hi adX AD.o.key yl.o (HA.o.later fw.o) Co (HC.o.later fw.o) EU ig kZ m7).mono ?_;rintro e w3 ⟨v3,rfl,eZ,dt⟩;refine⟨_,rfl,eZ,?_⟩;have Lq:=ak (AD.o.later eZ);have pI:=ak (fw.o.trans (eZ.mono fw.o.size));have rO:=ak (bQ dt fw.o.size);obtain⟨q1,q2,q3,q4,q5⟩:=Lq.o.cells;clear dt eZ yl AD fw;go_simp
   iterate 1 (refine aa rfl (by rfl) (v:=?_) ?_ ?_;rotate_left;(intro w' hw';clear hw';go_simp;with_reducible rfl);go_simp)
   refine az cA ?_;clear cA;have JY:IntKind.u64.wrap ((n:Int)+1)=((n+1:Nat):Int):=by rw[IntKind.wrap_u64];omega
   have HR4:=ak (Lq.o.Qd (n+1));have DB:ae ((w3.setCell ⟨g,off+2,none⟩ (.int .u64 ((n+1:Nat):Int))).ownsRow w.heap.size 5 1 v3 (lc+16) ((ku key (d7 n) ad b).map bv)):=cT rO.o (bI.setCell w3 g _ _) (λb' cU e=>by
    have:=(aad rO.o b' cU).1;cases e
    omega)
   have Av:ae (w.grownBy (w3.setCell ⟨g,off+2,none⟩ (.int .u64 ((n+1:Nat):Int))) (some g)):=World.grownBy.trans (bI.below g pI.o) (bI.setCell w3 g _ _)
   go_wp2
   go_ret2
   exact⟨_,rfl,Av.o,HR4.o,_,DB.o⟩
theorem Iv (g off t:Nat)(L:bK)(kb eh kc:Nat)(key:aO)(has:Bool)(n:Nat)(a:bW)(la ca:Nat)(ad:aO)(c:bW)(lc cc:Nat)(b:aO)(w:aw)
  (hR:RC w g off t L kb eh kc key has n) (hn:n≤18446744073709551615) (hA:bj w a la ad) (Co:a=none→ca=0) (hC:bj w c lc b) (O0:c=none→cc=0) (EU:la≤1000) (ig:lc≤1000) (kZ:lc≤cc) (m7:cc≤maxLen):
  Calls prog 64 #[.pointer (some ⟨g,off,none⟩),.slice a la ca,.slice c lc cc] w λe w'=>∃v,e= .returned (.tuple #[v,.int .i64 ((mZ key has n ad b:Nat):Int)])∧w.grownBy w' (some g)∧RC w' g off t (L.set (off+2) (.int .u64 ((ri key has n ad b:Nat):Int))) kb eh kc key has (ri key has n ad b)∧∃m,w'.ownsRow w.heap.size 5 1 v m ((og key has n ad b).map bv):=by
 have kW:=hC.1;have oa:=hR.lt;have HR:ae (RC w g off t L kb eh kc key has n):=hR;have HA:ae (bj w a la ad):=hA;have HC:ae (bj w c lc b):=hC;obtain⟨q1,q2,q3,_,_⟩:=hR.cells;clear hR hA hC;cases has with
 |false=>
  have iz:Below w.heap.size w (w.alloc (.cells #[] 5)):=eF;obtain⟨v1,w1,lj,cH,uB⟩:=bx (w.alloc (.cells #[] 5)) w.heap.size (.slice (some ⟨w.heap.size,0,none⟩) 0 0) 0 [] (World.ownsRow_made w #[] 0 (di _) (Nat.zero_le _) rfl) c lc cc b (HC.o.later iz) O0 (by simp) (by omega);have fU:ae (Below w.heap.size w w1):=iz.grown uB (by simp) (λk hk=>by simp[Value.ownBlock] at hk;omega);rw[Nat.zero_add,List.nil_append] at cH;have f8:=ak cH;have OX:ae _:=lj;clear lj cH uB iz
  go_enter func64,ntmps64
  go_wp2_with (at_builtin;refine ao rfl (.tmp 15) (.tmp 16) 22 rfl _ _ _ _ rfl rfl OX.o ?_)
  go_ret2
  exact⟨_,rfl,bI.below g fU.o,(HR.o.later fU.o).same,_,f8.o⟩
 |true=>
  by_cases eL:n=18446744073709551615
  ·subst eL
   go_enter func64,ntmps64
   go_wp2
   go_ret2
   exact⟨_,rfl,cR _ _,HR.o.same,0,⟨rfl,.inl ⟨rfl,rfl⟩⟩⟩
  ·have anp:¬(n:Int)=18446744073709551615:=by omega
   obtain⟨sb,BU⟩:=aW (fY key (d7 n) ad b);have e1:mZ key true n ad b=if sb=true then 0 else 3:=by simp[mZ,gf,eL,BU]
   have e2:ri key true n ad b=if sb=true then n+1 else n:=by simp[ri,gf,eL,BU]
   have e3:og key true n ad b=if sb=true then jx key (d7 n) b else[]:=by simp[og,gf,eL,BU]
   rw[e1,e2,e3];have HSb:=ak BU;clear e1 e2 e3 BU
   go_enter func64,ntmps64
   go_wp2
   obtain⟨W,hW⟩:=aW (w.drew);have cL:Below w.heap.size w W:=by rw[←hW];exact gl
   have oZ:=ak cL;have pZ:=ak (HR.o.later cL);have Bp:ae (∀w',bM W w'→w'.cell? ⟨g,off,none⟩=some (.slice (some ⟨kb,eh,none⟩) 32 kc)∧w'.cell? ⟨g,off+2,none⟩=some (.int .u64 (n:Int))):=λw' hw'=>by obtain⟨c1,_,c3,_⟩:=(pZ.o.later hw').cells;exact⟨c1,c3⟩
   have MY:ae (w.drew=W):=hW;clear hW cL q1 q2 q3;refine ah (G:=bM) (by kernel_rfl) bM.refl bM.trans (by kernel_rfl) [(0,true),(1,true),(2,true),(3,true),(4,true),(5,true),(6,true),(7,true),(9,true),(10,true),(8,false),(11,false),(12,true),(13,true),(14,true),(15,true),(16,true)] rfl (by kernel_rfl) ?_;intro KK cA;rw[MY.out]
   iterate 10 (refine aa rfl (by rfl) (v:=?_) ?_ ?_;rotate_left;(intro w' hw';obtain⟨q1,q2⟩:=Bp.o w' hw';clear hw';go_simp;with_reducible rfl);go_simp)
   refine aU (f:=91) (args:=#[.int .u64 (n:Int)]) rfl (by rfl) (by go_simp) ?_;refine(zG n (by omega) W).mono ?_;rintro e w2 ⟨nb,nc,rfl,cM,adW,adX,rN⟩;refine⟨_,rfl,cM,?_⟩;have yl:=ak rN;have fw:=ak (oZ.o.trans (cM.mono oZ.o.size));have AD:=ak (pZ.o.later cM);clear cM rN pZ oZ Bp;go_simp
   refine aU (f:=93) (args:=#[.slice (some ⟨kb,eh,none⟩) 32 kc,.slice (some ⟨nb,0,none⟩) 12 nc,.slice a la ca,.slice c lc cc]) rfl (by rfl) (by go_simp) ?_;refine(Kz kb eh nb 0 kc nc key (d7 n) a la ca ad c lc cc b w2 AD.o.lo adW AD.o.hi adX AD.o.key yl.o (HA.o.later fw.o) Co (HC.o.later fw.o) EU ig kZ m7).mono ?_;rintro e w3 ⟨v3,rfl,eZ,m3,dt⟩;rw[HSb.o] at dt⊢;refine⟨_,rfl,eZ,?_⟩;have Lq:=ak (AD.o.later eZ);have pI:=ak (fw.o.trans (eZ.mono fw.o.size));have rO:=ak (bQ dt fw.o.size);obtain⟨q1,q2,q3,q4,q5⟩:=Lq.o.cells;clear dt eZ yl AD fw;go_simp
   iterate 5 (refine aa rfl (by rfl) (v:=?_) ?_ ?_;rotate_left;(intro w' hw';clear hw';go_simp;with_reducible rfl);go_simp)
   refine az cA ?_;clear cA;cases sb with
   |false=>
    go_wp2
    go_ret2
    exact⟨_,rfl,bI.below g pI.o,Lq.o.same,0,⟨rfl,.inl ⟨rfl,rfl⟩⟩⟩
   |true=>
    have JY:IntKind.u64.wrap ((n:Int)+1)=((n+1:Nat):Int):=by rw[IntKind.wrap_u64];omega
    have HR4:=ak (Lq.o.Qd (n+1));have DB:ae ((w3.setCell ⟨g,off+2,none⟩ (.int .u64 ((n+1:Nat):Int))).ownsRow w.heap.size 5 1 v3 m3 ((jx key (d7 n) b).map bv)):=cT rO.o (bI.setCell w3 g _ _) (λb' cU e=>by
     have:=(aad rO.o b' cU).1;cases e
     omega)
    have Av:ae (w.grownBy (w3.setCell ⟨g,off+2,none⟩ (.int .u64 ((n+1:Nat):Int))) (some g)):=World.grownBy.trans (bI.below g pI.o) (bI.setCell w3 g _ _)
    go_wp2
    go_ret2
    exact⟨_,rfl,Av.o,HR4.o,_,DB.o⟩
def rmV (cb co cc hb ho hc kb ko kc:Nat)(has:Bool)(n:Nat):bK:=[.slice (some ⟨cb,co,none⟩) 32 cc,.slice (some ⟨hb,ho,none⟩) 32 hc,.slice (some ⟨kb,ko,none⟩) 32 kc,.bool has,.int .u64 (n:Int)]
structure RM (w:aw)(g cb co cc hb ho hc kb ko kc:Nat)(chain hash key:aO)(has:Bool)(n:Nat):Prop where
 row:w.heap[g]?=some (.cells (rmV cb co cc hb ho hc kb ko kc has n).toArray 54 (0,0))
 cl:32≤cc
 hl:32≤hc
 kl:32≤kc
 kh:kc≤9223372036854775807
 cB:bj w (some ⟨cb,co,none⟩) 32 chain
 hB:bj w (some ⟨hb,ho,none⟩) 32 hash
 kB:bj w (some ⟨kb,ko,none⟩) 32 key
 cg:cb≠g
 hg:hb≠g
 kg:kb≠g
def RMX (w:aw)(g:Nat)(X:Nat→Prop)(chain hash key:aO)(has:Bool)(n:Nat):Prop:=∃cb co cc hb ho hc kb ko kc,RM w g cb co cc hb ho hc kb ko kc chain hash key has n∧¬X cb∧¬X hb∧¬X kb
section
variable {w w':aw} {g cb co cc hb ho hc kb ko kc:Nat} {chain hash key:aO} {has:Bool} {n:Nat}
theorem RM.lt (x:RM w g cb co cc hb ho hc kb ko kc chain hash key has n):g<w.heap.size:=(gD.1 x.row).1
theorem RM.later (x:RM w g cb co cc hb ho hc kb ko kc chain hash key has n)(cU:Below w.heap.size w w'):RM w' g cb co cc hb ho hc kb ko kc chain hash key has n:=
 ⟨ks x.row cU,x.cl,x.hl,x.kl,x.kh,x.cB.later cU,x.hB.later cU,x.kB.later cU,x.cg,x.hg,x.kg⟩
theorem RM.cells (x:RM w g cb co cc hb ho hc kb ko kc chain hash key has n):
  w.cell? ⟨g,0,none⟩=some (.slice (some ⟨cb,co,none⟩) 32 cc)∧w.cell? ⟨g,1,none⟩=some (.slice (some ⟨hb,ho,none⟩) 32 hc)∧w.cell? ⟨g,2,none⟩=some (.slice (some ⟨kb,ko,none⟩) 32 kc)∧
  w.frozen? ⟨g,0,none⟩=false∧w.frozen? ⟨g,1,none⟩=false∧w.frozen? ⟨g,2,none⟩=false:=
 ⟨dB x.row rfl,dB x.row rfl,dB x.row rfl,frozen_of_row w g _ _ _ x.row,frozen_of_row w g _ _ _ x.row,frozen_of_row w g _ _ _ x.row⟩
theorem RM.rc (x:RM w g cb co cc hb ho hc kb ko kc chain hash key has n):RC w g 2 54 (rmV cb co cc hb ho hc kb ko kc has n) kb ko kc key has n:=
 ⟨x.row,rfl,rfl,rfl,x.kl,x.kh,x.kB,x.kg⟩
theorem RM.Zq (x:RM w g cb co cc hb ho hc kb ko kc chain hash key has n)(cU Bs MG:Nat)(hash':aO)(hl':32≤MG)(Xh:bj w (some ⟨cU,Bs,none⟩) 32 hash')(hg':cU≠g):
  RM (w.setCell ⟨g,1,none⟩ (.slice (some ⟨cU,Bs,none⟩) 32 MG)) g cb co cc cU Bs MG kb ko kc chain hash' key has n:=
 ⟨by have:=kr x.row 1 (.slice (some ⟨cU,Bs,none⟩) 32 MG);exact this,x.cl,hl',x.kl,x.kh,x.cB.but (bI.setCell w g _ _) x.cg,Xh.but (bI.setCell w g _ _) hg',x.kB.but (bI.setCell w g _ _) x.kg,x.cg,hg',x.kg⟩
theorem RM.turned (x:RM w g cb co cc hb ho hc kb ko kc chain hash key has n){m:Nat}(hG:w.grownBy w' (some g))(h:RC w' g 2 54 ((rmV cb co cc hb ho hc kb ko kc has n).set (2+2) (.int .u64 (m:Int))) kb ko kc key has m):
  RM w' g cb co cc hb ho hc kb ko kc chain hash key has m:=
 ⟨by have:=h.row;exact this,x.cl,x.hl,x.kl,x.kh,x.cB.but hG x.cg,x.hB.but hG x.hg,h.key,x.cg,x.hg,x.kg⟩
end
theorem oX {w w':aw}{a:bW}{n g:Nat}{l:aO}(h:bj w a n l)(hg:w.grownBy w' (some g))(hb:0<n→∀b o f,a=some ⟨b,o,f⟩→b≠g):bj w' a n l:=by
 rcases h.2 with h0|⟨b,off,rfl,_⟩
 ·exact⟨h.1,.inl h0⟩
 ·by_cases h0:n=0
  ·exact⟨h.1,.inl h0⟩
  ·exact h.but hg (hb (by omega) b off none rfl)
theorem gZ (g cb co cc hb ho hc kb ko kc:Nat)(chain hash key:aO)(has:Bool)(n:Nat)(b:bW)(lb fT:Nat)(bl:aO)(w:aw)
  (hM:RM w g cb co cc hb ho hc kb ko kc chain hash key has n) (X9:Nat→Prop) (hx9:∀x,X9 x→x<w.heap.size) (FC:¬X9 cb∧¬X9 hb∧¬X9 kb) (hB:bj w b lb bl) (kX:b=none→fT=0) (FN:lb≤2000):
  Calls prog 25 #[.pointer (some ⟨g,0,none⟩),.slice b lb fT] w λe w'=>(∃v,e= .returned v)∧w.grownBy w' (some g)∧RMX w' g X9 chain (zi hash bl) key has n:=by
 have kW:=hB.1;have oa:=hM.lt;have HM:=ak hM;have HB:=ak hB;have iz:Below w.heap.size w (w.alloc (.cells #[] 5)):=eF;obtain⟨v1,w1,lj,cH,uB⟩:=bx (w.alloc (.cells #[] 5)) w.heap.size (.slice (some ⟨w.heap.size,0,none⟩) 0 0) 0 [] (World.ownsRow_made w #[] 0 (di _) (Nat.zero_le _) rfl) (some ⟨hb,ho,none⟩) 32 hc hash (hM.hB.later iz) (λe=>by cases e) (by simp) (by omega);have fg:Below w.heap.size w w1:=iz.grown uB (by simp) (λk hk=>by simp[Value.ownBlock] at hk;omega);rw[Nat.zero_add,List.nil_append] at cH;obtain⟨v2,w2,nD,cZ,kj⟩:=bx w1 w.heap.size v1 32 hash cH b lb fT bl (hB.later fg) kX fg.size (by omega);have fV:Below w.heap.size w w2:=fg.grown kj fg.size (λk hk=>(cH.lt k hk).1);obtain⟨a2,c2,rfl,rN,jM,_,tL⟩:=bq cZ;have Cd:ae _:=lj;have RK:ae _:=nD;have sO:=ak rN;have fw:=ak fV;have hMa:=hM.later iz;obtain⟨q1,q2,q3,q4,q5,q6⟩:=hMa.cells;clear hM hB lj nD cH cZ uB kj fg fV rN hMa iz
 go_enter func25,ntmps25
 go_wp2_with (at_builtin;first|refine ao rfl (.tmp 5) (.tmp 9) 22 rfl _ _ _ _ rfl rfl Cd.o ?_|refine ao rfl (.tmp 10) (.tmp 11) 22 rfl _ _ _ _ rfl rfl RK.o ?_)
 clear q1 q2 q3 q4 q5 q6 Cd RK;refine(j7 a2 (32+lb) c2 (hash++bl) w2 sO.o tL (by omega) jM).mono ?_;rintro e w3 ⟨a3,c3,rfl,eZ,ur,Cj⟩;have vo:=HM.o.later (fw.o.trans (eZ.mono fw.o.size));have yd:=ak (fw.o.trans (eZ.mono fw.o.size));have wm:=bj.gS ur;obtain⟨g3,o3,rfl,_⟩:=wm.at_ 0 (by omega);have uu:g3≠g:=by have:=Cj g3 rfl;have:=fw.o.size;omega
 have AL:¬X9 g3:=λh=>by have h1:=hx9 g3 h;have h2:=Cj g3 rfl;have h3:=fw.o.size;omega
 have tr:=ur.Ic;have WW:=vo.Zq g3 o3 c3 (zi hash bl) tr wm uu;have HM4:=ak WW;have Av:ae (w.grownBy (w3.setCell ⟨g,1,none⟩ (.slice (some ⟨g3,o3,none⟩) 32 c3)) (some g)):=World.grownBy.trans (bI.below g yd.o) (bI.setCell w3 g _ _);obtain⟨q1,q2,q3,q4,q5,q6⟩:=vo.cells;clear eZ ur Cj wm vo WW
 go_wp2
 refine bodyPost_end (results_none rfl _ _ _) rfl ?_;exact⟨⟨_,rfl⟩,Av.o,_,_,_,_,_,_,_,_,_,HM4.o,FC.1,AL,FC.2.2⟩
theorem yI (g cb co cc hb ho hc kb ko kc:Nat)(chain hash key:aO)(has:Bool)(n:Nat)(b:bW)(lb fT:Nat)(bl:aO)(w:aw)
  (hM:RM w g cb co cc hb ho hc kb ko kc chain hash key has n) (X9:Nat→Prop) (hx9:∀x,X9 x→x<w.heap.size) (FC:¬X9 cb∧¬X9 hb∧¬X9 kb) (hn:n≤18446744073709551615) (hB:bj w b lb bl) (kX:b=none→fT=0) (FN:lb≤900) (yQ:lb≤fT) (O7:fT≤maxLen) (pW:0<lb→∀x o f,b=some ⟨x,o,f⟩→x≠g):
  Calls prog 34 #[.pointer (some ⟨g,0,none⟩),.slice b lb fT] w λe w'=>∃v,e= .returned (.tuple #[v,.int .i64 ((sw has n:Nat):Int)])∧w.grownBy w' (some g)∧RMX w' g X9 chain (xF hash key has n bl) key has (uh has n)∧∃m,w'.ownsRow w.heap.size 5 1 v m ((oP key has n hash bl).map bv):=by
 have oa:=hM.lt;have HM:=ak hM;have HB:=ak hB;obtain⟨X,hX⟩:=aW (oP key has n hash bl);obtain⟨ev,Zr⟩:=aW (sw has n);obtain⟨nv,hnv⟩:=aW (uh has n);have hHs:xF hash key has n bl=if ev=0 then zi hash X else hash:=by rw[xF,Zr,hX]
 have hXl:X.length≤lb+16:=by rw[←hX];have:=rH key has n hash bl;have:=hB.1;omega
 obtain⟨HH,Zs⟩:=aW (xF hash key has n bl);have VM:ae (ev=0→zi hash X=HH):=λe=>by rw[←Zs,hHs,if_pos e]
 have Hno:ae (¬ev=0→hash=HH):=λe=>by rw[←Zs,hHs,if_neg e]
 rw[hX,Zr,Zs,hnv];have HXe:=ak hX;have Hev:=ak Zr;have Hnv:=ak hnv;clear hM hB hX Zr hnv hHs Zs
 go_enter func34,ntmps34
 go_wp2
 obtain⟨W,hW⟩:=aW (w.drew);have Ge:Below w.heap.size w W:=by rw[←hW];exact gl
 have xp:=ak (HM.o.later Ge);have gx:=ak (HB.o.later Ge);have oZ:=ak Ge;have Af:=xp.o.cells.2.1;have pd:ae (w.drew=W):=hW;clear hW Ge;refine ah (G:=λX Y=>X.grownBy Y (some g)∧Y.cell? ⟨g,1,none⟩=X.cell? ⟨g,1,none⟩) (by kernel_rfl) (λX=>⟨cR X _,rfl⟩) (λ_ _ _ h k=>⟨World.grownBy.trans h.1 k.1,k.2.trans h.2⟩) (by kernel_rfl) [(0,true),(1,true),(2,true),(3,true),(4,true),(5,true),(6,true),(7,true),(8,false),(9,true),(10,true),(11,true),(12,true),(13,true)] rfl (by kernel_rfl) ?_;intro KK cA;rw[pd.o]
 iterate 8 (refine aa rfl (by rfl) (v:=?_) ?_ ?_;rotate_left;(intro w' hw';have q1:=hw'.2.trans Af;clear hw';go_simp;with_reducible rfl);go_simp)
 ·refine aU (f:=62) (args:=#[.pointer (some ⟨g,2,none⟩),.slice (some ⟨hb,ho,none⟩) 32 hc,.slice b lb fT]) rfl (by rfl) (by go_simp) ?_;refine(Iu g 2 _ _ kb ko kc key has n (some ⟨hb,ho,none⟩) 32 hc hash b lb fT bl W xp.o.rc hn xp.o.hB (λe=>by cases e) gx.o kX (by omega) (by omega) yQ O7).mono ?_;rintro e w3 ⟨v3,rfl,fP,VN,m3,dt⟩;refine⟨_,rfl,⟨fP,(dB VN.row (i:=1) (v:=.slice (some ⟨hb,ho,none⟩) 32 hc) rfl).trans Af.symm⟩,?_⟩;have vo:=xp.o.turned fP VN;rw[HXe.o] at dt;rw[Hev.o];rw[Hnv.o] at vo;have rP:X.length=m3:=by have:=dt.1;simpa using this
  obtain⟨a3,c3,rfl,wm,tr,xx,CZ⟩:=bq dt;have VO:=World.grownBy.trans (bI.below g oZ.o) fP;have Cj:∀x o f,a3=some ⟨x,o,f⟩→x≠g:=λx o f e=>by subst e;have h1:=(aad dt x rfl).1;have h2:=xp.o.lt;omega
  have yS:=ak vo;have Ax:=ak wm;have rO:=ak (bQ dt oZ.o.size);have yd:=ak VO;have Zt:=ak (oX gx.o fP pW);clear vo wm dt VO fP VN xp gx oZ Af;go_simp
  iterate 5 (refine aa rfl (by rfl) (v:=?_) ?_ ?_;rotate_left;(intro w' hw';clear hw';go_simp;with_reducible rfl);go_simp)
  refine az cA ?_;clear cA
  by_cases he:ev=0
  ·have VP:=VM.o he;subst he;clear VM Hno
   go_wp2_with fail
   refine(gZ g cb co cc hb ho hc kb ko kc chain hash key has nv a3 m3 c3 X w3 yS.o X9 (λx h=>tV (hx9 x h) yd.o.size) FC Ax.o CZ (by omega)).mono ?_;rintro e w4 ⟨⟨v4,rfl⟩,hG4,WW⟩;rw[VP] at WW;have DB:=ak (cT rO.o hG4 (λx hx e=>by
    cases e
    cases a3 with
    |none=>cases hx
    |some y=>
     obtain⟨yb,yo,yf⟩:=y;have:=Cj yb yo yf rfl;simp[Value.ownBlock] at hx;omega))
   have Av:=ak (World.grownBy.trans yd.o hG4);have HM4:=ak WW;clear hG4 WW rO yd yS Ax Zt
   go_wp2
   go_ret2
   exact⟨_,rfl,Av.o,HM4.o,m3,DB.o⟩
  ·have he':¬((ev:Nat):Int)=0:=by omega
   have hM9:=yS.o;rw[Hno.o he] at hM9;have HM9:=ak hM9;clear hM9
   go_wp2
   go_ret2
   exact⟨_,rfl,yd.o,⟨_,_,_,_,_,_,_,_,_,HM9.o,FC⟩,m3,rO.o⟩
theorem yJ (g cb co cc hb ho hc kb ko kc:Nat)(chain hash key:aO)(has:Bool)(n:Nat)(b:bW)(lb fT:Nat)(bl:aO)(w:aw)
  (hM:RM w g cb co cc hb ho hc kb ko kc chain hash key has n) (X9:Nat→Prop) (hx9:∀x,X9 x→x<w.heap.size) (FC:¬X9 cb∧¬X9 hb∧¬X9 kb) (hn:n≤18446744073709551615) (hB:bj w b lb bl) (kX:b=none→fT=0) (FN:lb≤900) (yQ:lb≤fT) (O7:fT≤maxLen) (pW:0<lb→∀x o f,b=some ⟨x,o,f⟩→x≠g):
  Calls prog 38 #[.pointer (some ⟨g,0,none⟩),.slice b lb fT] w λe w'=>∃v,e= .returned (.tuple #[v,.int .i64 ((mZ key has n hash bl:Nat):Int)])∧w.grownBy w' (some g)∧RMX w' g X9 chain (wg hash key has n bl) key has (ri key has n hash bl)∧∃m,w'.ownsRow w.heap.size 5 1 v m ((og key has n hash bl).map bv):=by
 have oa:=hM.lt;have HM:=ak hM;have HB:=ak hB;obtain⟨X,hX⟩:=aW (og key has n hash bl);obtain⟨ev,Zr⟩:=aW (mZ key has n hash bl);obtain⟨nv,hnv⟩:=aW (ri key has n hash bl);have hHs:wg hash key has n bl=if ev=0 then zi hash bl else hash:=by rw[wg,Zr]
 have hXl:X.length≤lb+16:=by rw[←hX];have:=GZ key has n hash bl;have:=hB.1;omega
 obtain⟨HH,Zs⟩:=aW (wg hash key has n bl);have VM:ae (ev=0→zi hash bl=HH):=λe=>by rw[←Zs,hHs,if_pos e]
 have Hno:ae (¬ev=0→hash=HH):=λe=>by rw[←Zs,hHs,if_neg e]
 rw[hX,Zr,Zs,hnv];have HXe:=ak hX;have Hev:=ak Zr;have Hnv:=ak hnv;clear hM hB hX Zr hnv hHs Zs
 go_enter func38,ntmps38
 go_wp2
 obtain⟨W,hW⟩:=aW (w.drew);have Ge:Below w.heap.size w W:=by rw[←hW];exact gl
 have xp:=ak (HM.o.later Ge);have gx:=ak (HB.o.later Ge);have oZ:=ak Ge;have Af:=xp.o.cells.2.1;have pd:ae (w.drew=W):=hW;clear hW Ge;refine ah (G:=λX Y=>X.grownBy Y (some g)∧Y.cell? ⟨g,1,none⟩=X.cell? ⟨g,1,none⟩) (by kernel_rfl) (λX=>⟨cR X _,rfl⟩) (λ_ _ _ h k=>⟨World.grownBy.trans h.1 k.1,k.2.trans h.2⟩) (by kernel_rfl) [(0,true),(1,true),(2,true),(3,true),(4,true),(5,true),(6,true),(7,true),(8,false),(9,true),(10,true),(11,true),(12,true),(13,true)] rfl (by kernel_rfl) ?_;intro KK cA;rw[pd.o]
 iterate 8 (refine aa rfl (by rfl) (v:=?_) ?_ ?_;rotate_left;(intro w' hw';have q1:=hw'.2.trans Af;clear hw';go_simp;with_reducible rfl);go_simp)
 ·refine aU (f:=64) (args:=#[.pointer (some ⟨g,2,none⟩),.slice (some ⟨hb,ho,none⟩) 32 hc,.slice b lb fT]) rfl (by rfl) (by go_simp) ?_;refine(Iv g 2 _ _ kb ko kc key has n (some ⟨hb,ho,none⟩) 32 hc hash b lb fT bl W xp.o.rc hn xp.o.hB (λe=>by cases e) gx.o kX (by omega) (by omega) yQ O7).mono ?_;rintro e w3 ⟨v3,rfl,fP,VN,m3,dt⟩;refine⟨_,rfl,⟨fP,(dB VN.row (i:=1) (v:=.slice (some ⟨hb,ho,none⟩) 32 hc) rfl).trans Af.symm⟩,?_⟩;have vo:=xp.o.turned fP VN;rw[HXe.o] at dt;rw[Hev.o];rw[Hnv.o] at vo;have rP:X.length=m3:=by have:=dt.1;simpa using this
  obtain⟨a3,c3,rfl,wm,tr,xx,CZ⟩:=bq dt;have VO:=World.grownBy.trans (bI.below g oZ.o) fP;have Cj:∀x o f,a3=some ⟨x,o,f⟩→x≠g:=λx o f e=>by subst e;have h1:=(aad dt x rfl).1;have h2:=xp.o.lt;omega
  have yS:=ak vo;have Ax:=ak wm;have rO:=ak (bQ dt oZ.o.size);have yd:=ak VO;have Zt:=ak (oX gx.o fP pW);clear vo wm dt VO fP VN xp gx oZ Af;go_simp
  iterate 5 (refine aa rfl (by rfl) (v:=?_) ?_ ?_;rotate_left;(intro w' hw';clear hw';go_simp;with_reducible rfl);go_simp)
  refine az cA ?_;clear cA
  by_cases he:ev=0
  ·have VP:=VM.o he;subst he;clear VM Hno
   go_wp2_with fail
   refine(gZ g cb co cc hb ho hc kb ko kc chain hash key has nv b lb fT bl w3 yS.o X9 (λx h=>tV (hx9 x h) yd.o.size) FC Zt.o kX (by omega)).mono ?_;rintro e w4 ⟨⟨v4,rfl⟩,hG4,WW⟩;rw[VP] at WW;have DB:=ak (cT rO.o hG4 (λx hx e=>by
    cases e
    cases a3 with
    |none=>cases hx
    |some y=>
     obtain⟨yb,yo,yf⟩:=y;have:=Cj yb yo yf rfl;simp[Value.ownBlock] at hx;omega))
   have Av:=ak (World.grownBy.trans yd.o hG4);have HM4:=ak WW;clear hG4 WW rO yd yS Ax Zt
   go_wp2
   go_ret2
   exact⟨_,rfl,Av.o,HM4.o,m3,DB.o⟩
  ·have he':¬((ev:Nat):Int)=0:=by omega
   have hM9:=yS.o;rw[Hno.o he] at hM9;have HM9:=ak hM9;clear hM9
   go_wp2
   go_ret2
   exact⟨_,rfl,yd.o,⟨_,_,_,_,_,_,_,_,_,HM9.o,FC⟩,m3,rO.o⟩
theorem Lw (g cb co cc hb ho hc kb ko kc:Nat)(chain hash key:aO)(has:Bool)(n:Nat)(b:bW)(lb fT:Nat)(bl:aO)(w:aw)
  (hM:RM w g cb co cc hb ho hc kb ko kc chain hash key has n) (X9:Nat→Prop) (hx9:∀x,X9 x→x<w.heap.size) (FC:¬X9 cb∧¬X9 hb∧¬X9 kb) (hB:bj w b lb bl) (kX:b=none→fT=0) (FN:lb≤2000) (yQ:lb≤fT):
  Calls prog 61 #[.pointer (some ⟨g,0,none⟩),.slice b lb fT] w λe w'=>(∃v,e= .returned v)∧w.grownBy w' (some g)∧RMX w' g X9 (gH chain bl) hash (nS chain bl) true 0:=by
 have oa:=hM.lt;have HM:=ak hM;have HB:=ak hB;obtain⟨q1,q2,q3,q4,q5,q6⟩:=hM.cells;clear hM hB
 go_enter func61,ntmps61
 go_wp2_with fail
 refine(xW (some ⟨cb,co,none⟩) 32 cc chain b lb fT bl w HM.o.cB (λe=>by cases e) (by omega) HM.o.cl HB.o kX (by omega) yQ).mono ?_;rintro e w1 ⟨v1,rfl,ck,cH⟩;obtain⟨vb,vc,rfl,Sn,_⟩:=gO cH (by omega);obtain⟨_,_,e1,pz,gi,sC,_⟩:=bq cH;cases e1
 obtain⟨d1,rb⟩:∃d,gH chain bl=d:=⟨_,rfl⟩;obtain⟨d2,xi⟩:∃d,nS chain bl=d:=⟨_,rfl⟩;obtain⟨d3,K7⟩:∃d,CS chain bl=d:=⟨_,rfl⟩;have l1:d1.length=32:=by rw[←rb];exact Bc _ _
 have l2:d2.length=32:=by rw[←xi];exact Bd _ _
 rw[rb,xi,K7] at pz;have ru:=ak rb;have Pr:=ak xi;have hA:=pz.cut (q:=32) (by omega);rw[List.append_assoc,List.take_left' l1] at hA;have hK:=pz.sub (n:=32) (q:=64) (by omega) (by omega);rw[List.append_assoc,List.drop_left' l1,List.take_left' l2] at hK;have hK':bj w1 (some ⟨vb,32,none⟩) 32 d2:=by simpa using hK
 have hvg:vb≠g:=by omega
 have hv9:¬X9 vb:=λh=>by have h1:=hx9 vb h;omega
 have anv:vc≤9223372036854775807:=by unfold maxLen at sC;omega
 have xu:=HM.o.later ck;have fU:=ak ck;obtain⟨p1,p2,p3,p4,p5,p6⟩:=xu.cells;have hi1:(32:Int)≤(vc:Int):=by omega
 have hi2:(64:Int)≤(vc:Int):=by omega
 have r1:=kr xu.row 0 (.slice (some ⟨vb,0,none⟩) 32 vc);have Pq:=hA.but (bI.setCell w1 g 0 (.slice (some ⟨vb,0,none⟩) 32 vc)) hvg;have Ug:=hK'.but (bI.setCell w1 g 0 (.slice (some ⟨vb,0,none⟩) 32 vc)) hvg;have St:=xu.hB.but (bI.setCell w1 g 0 (.slice (some ⟨vb,0,none⟩) 32 vc)) xu.hg;have fH:=World.grownBy.trans (bI.below g ck) (bI.setCell w1 g 0 (.slice (some ⟨vb,0,none⟩) 32 vc));obtain⟨w2,JP⟩:∃W,w1.setCell ⟨g,0,none⟩ (.slice (some ⟨vb,0,none⟩) 32 vc)=W:=⟨_,rfl⟩;rw[JP] at r1 Pq Ug St fH;have c2:w2.cell? ⟨g,2,none⟩=some (.slice (some ⟨kb,ko,none⟩) 32 kc):=dB r1 rfl;have c3:w2.cell? ⟨g,3,none⟩=some (.bool has):=dB r1 rfl;have c4:w2.cell? ⟨g,4,none⟩=some (.int .u64 (n:Int)):=dB r1 rfl;have f2:w2.frozen? ⟨g,2,none⟩=false:=frozen_of_row w2 g _ _ _ r1;have f3:w2.frozen? ⟨g,3,none⟩=false:=frozen_of_row w2 g _ _ _ r1;have f4:w2.frozen? ⟨g,4,none⟩=false:=frozen_of_row w2 g _ _ _ r1;have r2:=kr r1 2 (.slice (some ⟨vb,32,none⟩) 32 (vc-32));have r3:=kr r2 3 (.bool true);have r4:=kr r3 4 (.int .u64 0);have fP:=((World.grownBy.trans fH (bI.setCell w2 g 2 (.slice (some ⟨vb,32,none⟩) 32 (vc-32)))).trans (bI.setCell _ g 3 (.bool true))).trans (bI.setCell _ g 4 (.int .u64 0));have hT:w2.grownBy (((w2.setCell ⟨g,2,none⟩ (.slice (some ⟨vb,32,none⟩) 32 (vc-32))).setCell ⟨g,3,none⟩ (.bool true)).setCell ⟨g,4,none⟩ (.int .u64 0)) (some g):=World.grownBy.trans (World.grownBy.trans (bI.setCell w2 g 2 _) (bI.setCell _ g 3 _)) (bI.setCell _ g 4 _);have yS:ae (RM (((w2.setCell ⟨g,2,none⟩ (.slice (some ⟨vb,32,none⟩) 32 (vc-32))).setCell ⟨g,3,none⟩ (.bool true)).setCell ⟨g,4,none⟩ (.int .u64 0)) g vb 0 vc hb ho hc vb 32 (vc-32) d1 hash d2 true 0):=
  ⟨r4,by omega,xu.hl,by omega,by omega,Pq.but hT hvg,St.but hT xu.hg,Ug.but hT hvg,hvg,xu.hg,hvg⟩
 have yd:=ak fP;clear ck cH pz rb xi K7 hA hK hK' xu r1 r2 r3 r4 Pq Ug St fH fP hT q1 q2 q3 q4 q5 q6
 go_wp2
 refine bodyPost_end (results_none rfl _ _ _) rfl ?_;rw[ru.o,Pr.o];exact⟨⟨_,rfl⟩,yd.o,_,_,_,_,_,_,_,_,_,yS.o,hv9,FC.2.1,hv9⟩
end Go.Proofs.YtkdpblbhcfhagaaGreatDoor
