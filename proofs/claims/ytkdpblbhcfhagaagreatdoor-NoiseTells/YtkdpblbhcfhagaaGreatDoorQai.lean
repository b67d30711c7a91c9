import Derived.Test.YtkdpblbhcfhagaaGreatDoorQab
namespace Go.Proofs.YtkdpblbhcfhagaaGreatDoor
open Go.Proofs.Tryz
open _root_.Nat renaming le_refl → di, le_trans → kx, lt_of_lt_of_le → tV
open Go.RowKit.Below renaming refl → bZ, heap_alloc → jE
open Go.World renaming size_alloc → fx
open _root_.Array renaming getElem?_eq_some_iff → gD
open Go renaming undef → ag, World → aw, heap_alloc_new → eC
open _root_.List renaming replicate → cz, not_mem_nil → nj, mem_cons → mg, take_of_length_le → su
open Go.Exit renaming inBlock → nu
set_option maxHeartbeats 64000000
set_option linter.unusedVariables false
set_option maxRecDepth 100000
open Go.RowKit
def wG (s:List (BitVec 32)):Nat→List (BitVec 32)
 |0=>cz 16 0#32
 |k+1=>((wG s k).set k (bG s k)).set (8+k) (bG A8 k)
theorem uE (s:List (BitVec 32)):∀k,(wG s k).length=16
 |0=>by simp[wG]
 |k+1=>by rw[wG,List.length_set,List.length_set,uE s k]
theorem QX (s:List (BitVec 32))(hs:s.length=8):wG s 8=s++A8:=by
 match s,hs with
 |[a,b,c,d,e,f,g,h],_=>rfl
structure Ly (w:aw)(gs gr gv:Nat)(s l:List (BitVec 32))(W:aw):Prop where
 s:Wd W gs 141 s
 res:W.heap[gr]?=some (.cells bm 168 (0,0))
 v:Wd W gv 168 l
 nsv:gs≠gv
 nrv:gr≠gv
 br:w.heap.size≤gr
 bv:w.heap.size≤gv
 aY:Below w.heap.size w W
theorem Ly.new (w:aw)(s:List (BitVec 32)):Ly w w.heap.size (w.heap.size+1) (w.heap.size+1+1) s (wG s 0) (((w.alloc (.cells (s.map uv).toArray 141)).alloc (.cells bm 168)).alloc (.cells bm 168)):=by
 have h0:=Wd.new w 141 s;have h1:=eC (w.alloc (.cells (s.map uv).toArray 141)) (.cells bm 168);have h2:=eC ((w.alloc (.cells (s.map uv).toArray 141)).alloc (.cells bm 168)) (.cells bm 168);rw[fx] at h1;rw[fx,fx] at h2;refine⟨?_,?_,h2,by omega,by omega,by omega,by omega,?_⟩
 ·unfold Wd;rw[jE _ _ _ (by simp;omega),jE _ _ _ (by simp)];exact h0
 ·rw[jE _ _ _ (by simp)];exact h1
 ·exact(eF.alloc (by simp) _).alloc (by simp;omega) _
theorem Ly.set {w W:aw}{gs gr gv:Nat}{s l:List (BitVec 32)}(t:Ly w gs gr gv s l W)(k:Nat)(x:BitVec 32):Ly w gs gr gv s (l.set k x) (W.setCell ⟨gv,k,none⟩ (uv x)):=
 ⟨t.s.other t.nsv _ _,by rw[heap_setCell_other _ ⟨gv,k,none⟩ _ _ t.nrv];exact t.res,t.v.set k x,t.nsv,t.nrv,t.br,t.bv,t.aY.setCell t.bv _⟩
theorem Ly.drew {w W:aw}{gs gr gv:Nat}{s l:List (BitVec 32)}(t:Ly w gs gr gv s l W):Ly w gs gr gv s l W.drew:=⟨t.s,t.res,t.v,t.nsv,t.nrv,t.br,t.bv,t.aY.drew⟩
theorem j5 (s:List (BitVec 32))(told:Nat)(last:Bool)(w:aw)(hs:s.length=8)(ec:ke w)(rp:told<18446744073709551616):
  Calls prog 128 #[.agg (s.map uv).toArray,.int .u64 (told:Int),.bool last] w λe w'=>e= .returned (.agg ((iq s told last).map uv).toArray)∧Below w.heap.size w w':=by
 have sB:ae (Ly w w.heap.size (w.heap.size+1) (w.heap.size+1+1) s (wG s 0) (((w.alloc (.cells (s.map uv).toArray 141)).alloc (.cells bm 168)).alloc (.cells bm 168))):=Ly.new w s;have dG:ae (ke w):=ec;have ux:ae (1<w.heap.size∧2<w.heap.size):=ec.lt;clear ec
 go_enter func128,ntmps128
 go_wp2
 refine bY (P:=Code.wp prog _ _ _) (R:=λW=>ae (Ly w w.heap.size (w.heap.size+1) (w.heap.size+1+1) s (wG s 0) W)) _ sB ?_;intro W0 pY;clear sB;generalize w.heap.size+1+1=gv at pY⊢
 generalize w.heap.size+1=gr at pY⊢
 generalize w.heap.size=gs at pY⊢
 go_loopw [9] (λi wr=>∃k:Nat,k≤8∧i= .int .i64 k∧ae (Ly w gs gr gv s (wG s k) wr)) (λi _=>8-(intOf i).toNat)
 case atStart=>exact⟨0,by omega,rfl,pY⟩
 case round=>
  clear pY;obtain⟨k,hk,rfl,hT⟩:=hrel
  by_cases dN:k<8
  ·obtain⟨p,hp⟩:=aW (8+k);have e1:IntKind.i64.wrap ((8:Int)+(k:Int))=(p:Int):=by rw[IntKind.wrap_i64];omega
   have i1:(k:Int)<8:=by omega
   have i2:(k:Int)<16:=by omega
   have i3:(p:Int)<16:=by omega
   obtain⟨x,hx⟩:=aW (bG s k);obtain⟨y,hy⟩:=aW (bG A8 k);have Bo:=hT.out.drew;obtain⟨W,hW⟩:=aW (wr.drew);rw[hW] at Bo;have ij:ae (wr.drew=W):=hW;have ag8:ke W:=dG.o.below Bo.aY ux.o;have eL:1≠gv:=by have:=ux.o.1;have:=Bo.bv;omega
   have oR:∀w',bI gv W w'→w'.cell? ⟨gs,k,none⟩=some (.int .u32 (x.toNat:Int)):=λw' hw'=>by rw[←hx];exact((Bo.s.but Bo.nsv hw').word k (by omega)).1
   have om:∀w',bI gv W w'→w'.cell? ⟨1,k,none⟩=some (.int .u32 (y.toNat:Int)):=λw' hw'=>by rw[←hy];exact World.grownBy.cell hw' (ag8.word k dN) (λe=>eL (by cases e;rfl))
   obtain⟨c1,f1⟩:=Bo.v.word k (by rw[uE];omega);have QP:=Bo.set k x;obtain⟨W1,fg⟩:=aW (W.setCell ⟨gv,k,none⟩ (uv x));rw[fg] at QP;obtain⟨c2,f2⟩:=QP.v.word p (by rw[List.length_set,uE];omega);have Gf:=QP.set p y;obtain⟨W2,fV⟩:=aW (W1.setCell ⟨gv,p,none⟩ (uv y));rw[fV] at Gf;have vI:ae (Ly w gs gr gv s (wG s (k+1)) W2):=by rw[wG,hx,hy,hp];exact Gf
   have fU:ae (W.setCell ⟨gv,k,none⟩ (.int .u32 (x.toNat:Int))=W1):=fg;have fw:ae (W1.setCell ⟨gv,p,none⟩ (.int .u32 (y.toNat:Int))=W2):=fV;have iG:ae (bI gv W W1):=by rw[←fg];exact bI.setCell _ _ _ _
   clear hW hT QP Gf fg fV Bo ag8 hx hy eL
   go_wp2
   refine ah (G:=bI gv) (by kernel_rfl) (bI.refl gv) (bI.trans gv) (by kernel_rfl) [(0,true),(1,true),(2,true),(3,true),(4,true),(5,true),(6,true),(7,true),(8,true),(9,true),(10,false),(11,true),(12,false)] rfl (by kernel_rfl) ?_;intro KK cA;rw[ij.o]
   iterate 10 (refine aa rfl (by rfl) (v:=?_) ?_ ?_;rotate_left;(intro w' hw';have q1:=oR w' hw';have q2:=om w' hw';go_simp;with_reducible rfl);go_simp)
   refine bu rfl (by rfl) (w':=W1) (by rw[←fU.o];go_simp) iG.o ?_;clear c1 f1 oR om;go_simp
   iterate 1 (refine aa rfl (by rfl) (v:=?_) ?_ ?_;rotate_left;(intro w' hw';clear hw';go_simp;with_reducible rfl);go_simp)
   refine bp rfl (by rfl) (w':=W2) (by rw[←fw.o];go_simp) (by kernel_rfl) ?_;go_simp
   refine az cA ?_
   go_wp2
   exact⟨⟨k+1,by omega,by go_num,vI⟩,by simp[intOf];omega⟩
  ·have ek:k=8:=by omega
   have G':¬(k:Int)<8:=by omega
   obtain⟨V,hV⟩:=aW (s++A8);have Ph:V.length=16:=by rw[←hV];simp[hs,A8]
   have Hr:Ly w gs gr gv s V wr:=by have:=hT.out;rw[ek,QX s hs,hV] at this;exact this
   clear hT;obtain⟨T0,Uj⟩:∃T,BitVec.ofNat 32 told=T:=⟨_,rfl⟩;obtain⟨T1,Uk⟩:∃T,BitVec.ofNat 32 (told/4294967296)=T:=⟨_,rfl⟩;have QY:(told:Int) % 4294967296=(T0.toNat:Int):=by rw[←Uj,BitVec.toNat_ofNat];omega
   have nU:(told:Int)/4294967296=(T1.toNat:Int):=by rw[←Uk,BitVec.toNat_ofNat];omega
   have L4:(T1.toNat:Int) % 4294967296=(T1.toNat:Int):=by have:=T1.isLt;omega
   obtain⟨EZ,f12⟩:=Hr.v.word 12 (by omega);obtain⟨c13,f13⟩:=Hr.v.word 13 (by omega);obtain⟨c14,f14⟩:=Hr.v.word 14 (by omega);obtain⟨x0,hx0⟩:∃x,bG V 12^^^T0=x:=⟨_,rfl⟩;obtain⟨x1,rm⟩:∃x,bG V 13^^^T1=x:=⟨_,rfl⟩;obtain⟨x2,Ct⟩:∃x,bG V 14^^^0xffffffff#32=x:=⟨_,rfl⟩;have hX0:bits .xor .u32 ((bG V 12).toNat:Int) (T0.toNat:Int)=(x0.toNat:Int):=by rw[uk,hx0]
   have jN:bits .xor .u32 ((bG V 13).toNat:Int) (T1.toNat:Int)=(x1.toNat:Int):=by rw[uk,rm]
   have lf:bits .xor .u32 IntKind.u32.max ((bG V 14).toNat:Int)=(x2.toNat:Int):=by show bits .xor .u32 (((0xffffffff#32:BitVec 32).toNat:Nat):Int) _=_;rw[uk,BitVec.xor_comm,Ct]
   have h12:=Hr.set 12 x0;have Yr:=h12.set 13 x1;have Ys:=Yr.set 14 x2;cases last
   ·have hF:iq s told false=(V.set 12 x0).set 13 x1:=by unfold iq;simp only[hV,Uj,Uk,hx0];rw[gy _ _ _ _ (by omega),rm];simp
    have Pj:(iq s told false).length=16:=lg s told false hs;obtain⟨M,hM⟩:=aW (iq s told false);rw[hM] at Pj hF;have HM:ae (iq s told false=M):=hM;rw[←hF] at Yr;have IB:ae ((prog.info? 168).map (·.size)=some (M.map uv).toArray.size):=jr (n:=16) (by kernel_rfl) M Pj;have HV:ae (Wd ((wr.setCell ⟨gv,12,none⟩ (.int .u32 (x0.toNat:Int))).setCell ⟨gv,13,none⟩ (.int .u32 (x1.toNat:Int))) gv 168 M):=Yr.v;have xA:(storeCells ⟨gr,0,none⟩ (M.map uv)).run prog ((wr.setCell ⟨gv,12,none⟩ (.int .u32 (x0.toNat:Int))).setCell ⟨gv,13,none⟩ (.int .u32 (x1.toNat:Int)))= .ok () (((wr.setCell ⟨gv,12,none⟩ (.int .u32 (x0.toNat:Int))).setCell ⟨gv,13,none⟩ (.int .u32 (x1.toNat:Int))).setRow gr (M.map uv).toArray):=aL _ gr _ _ (M.map uv) Yr.res (by simp[Pj,bm]) (cj M);have bh:=setRow_heap _ gr _ (M.map uv).toArray _ _ Yr.res;have bR:ae (Below w.heap.size w (((wr.setCell ⟨gv,12,none⟩ (.int .u32 (x0.toNat:Int))).setCell ⟨gv,13,none⟩ (.int .u32 (x1.toNat:Int))).setRow gr (M.map uv).toArray)):=below_setRow Yr.aY Yr.br _;obtain⟨W4,fj⟩:=aW (((wr.setCell ⟨gv,12,none⟩ (.int .u32 (x0.toNat:Int))).setCell ⟨gv,13,none⟩ (.int .u32 (x1.toNat:Int))).setRow gr (M.map uv).toArray);have DJ:(((wr.setCell ⟨gv,12,none⟩ (.int .u32 (x0.toNat:Int))).setCell ⟨gv,13,none⟩ (.int .u32 (x1.toNat:Int))).setRow gr (M.map uv).toArray).heap[gr]?=some (.cells (M.map uv).toArray 168 (0,0)):=bh;rw[fj] at xA bR DJ;have cY:ae (W4.heap[gr]?=some (.cells (M.map uv).toArray 168 (0,0))):=DJ;clear bh DJ fj Hr h12 Yr Ys hF hV hM hx0 rm Ct Uj Uk
    go_wp2_with (first|refine wpList_load_row rfl 168 _ rfl gv rfl 168 _ (0,0) _ HV.o underlying168 rfl IB.out ?_)
    (try simp only[nu,Exit.then])
    refine bodyPost_ret (results_cell_row rfl _ _ gr 168 _ (0,0) _ rfl cY.o underlying168 rfl IB.out) rfl ?_;exact⟨by rw[HM.o],bR.o⟩
   ·have hF:iq s told true=((V.set 12 x0).set 13 x1).set 14 x2:=by unfold iq;simp only[hV,Uj,Uk,hx0];rw[gy _ _ _ _ (by omega),rm,gy _ _ _ _ (by omega),gy _ _ _ _ (by omega),Ct];simp
    have Pj:(iq s told true).length=16:=lg s told true hs;obtain⟨M,hM⟩:=aW (iq s told true);rw[hM] at Pj hF;have HM:ae (iq s told true=M):=hM;rw[←hF] at Ys;rw[show uv x2= .int .u32 (bits .xor .u32 IntKind.u32.max ((bG V 14).toNat:Int)) by rw[lf];rfl] at Ys;have IB:ae ((prog.info? 168).map (·.size)=some (M.map uv).toArray.size):=jr (n:=16) (by kernel_rfl) M Pj;have HV:ae (Wd ((((wr.setCell ⟨gv,12,none⟩ (.int .u32 (x0.toNat:Int))).setCell ⟨gv,13,none⟩ (.int .u32 (x1.toNat:Int))).setCell ⟨gv,14,none⟩ (.int .u32 (bits .xor .u32 IntKind.u32.max ((bG V 14).toNat:Int))))) gv 168 M):=Ys.v;have xA:(storeCells ⟨gr,0,none⟩ (M.map uv)).run prog ((((wr.setCell ⟨gv,12,none⟩ (.int .u32 (x0.toNat:Int))).setCell ⟨gv,13,none⟩ (.int .u32 (x1.toNat:Int))).setCell ⟨gv,14,none⟩ (.int .u32 (bits .xor .u32 IntKind.u32.max ((bG V 14).toNat:Int)))))= .ok () (((((wr.setCell ⟨gv,12,none⟩ (.int .u32 (x0.toNat:Int))).setCell ⟨gv,13,none⟩ (.int .u32 (x1.toNat:Int))).setCell ⟨gv,14,none⟩ (.int .u32 (bits .xor .u32 IntKind.u32.max ((bG V 14).toNat:Int))))).setRow gr (M.map uv).toArray):=aL _ gr _ _ (M.map uv) Ys.res (by simp[Pj,bm]) (cj M);have bh:=setRow_heap _ gr _ (M.map uv).toArray _ _ Ys.res;have bR:ae (Below w.heap.size w (((((wr.setCell ⟨gv,12,none⟩ (.int .u32 (x0.toNat:Int))).setCell ⟨gv,13,none⟩ (.int .u32 (x1.toNat:Int))).setCell ⟨gv,14,none⟩ (.int .u32 (bits .xor .u32 IntKind.u32.max ((bG V 14).toNat:Int))))).setRow gr (M.map uv).toArray)):=below_setRow Ys.aY Ys.br _;obtain⟨W4,fj⟩:=aW (((((wr.setCell ⟨gv,12,none⟩ (.int .u32 (x0.toNat:Int))).setCell ⟨gv,13,none⟩ (.int .u32 (x1.toNat:Int))).setCell ⟨gv,14,none⟩ (.int .u32 (bits .xor .u32 IntKind.u32.max ((bG V 14).toNat:Int))))).setRow gr (M.map uv).toArray);have DJ:(((((wr.setCell ⟨gv,12,none⟩ (.int .u32 (x0.toNat:Int))).setCell ⟨gv,13,none⟩ (.int .u32 (x1.toNat:Int))).setCell ⟨gv,14,none⟩ (.int .u32 (bits .xor .u32 IntKind.u32.max ((bG V 14).toNat:Int))))).setRow gr (M.map uv).toArray).heap[gr]?=some (.cells (M.map uv).toArray 168 (0,0)):=bh;rw[fj] at xA bR DJ;have cY:ae (W4.heap[gr]?=some (.cells (M.map uv).toArray 168 (0,0))):=DJ;clear bh DJ fj Hr h12 Yr Ys hF hV hM hx0 rm Ct Uj Uk lf
    go_wp2_with (first|refine wpList_load_row rfl 168 _ rfl gv rfl 168 _ (0,0) _ HV.o underlying168 rfl IB.out ?_)
    (try simp only[nu,Exit.then])
    refine bodyPost_ret (results_cell_row rfl _ _ gr 168 _ (0,0) _ rfl cY.o underlying168 rfl IB.out) rfl ?_;exact⟨by rw[HM.o],bR.o⟩
theorem Ft (w:aw)(s:List (BitVec 32))(i:Nat)(hs:s.length=8)(hi:i<8):(Instr.index 141 (.agg (s.map uv).toArray) (.int .i64 (i:Int))).run prog w= .ok (.int .u32 ((bG s i).toNat:Int)) w:=by
 have hu:prog.underlying 141=some (.array 8 85):=underlying141;have he:prog.plainKey 85=true:=by kernel_rfl
 have hc:prog.cellsOf 85=1:=by kernel_rfl
 have p1:=run_part_plain (P:=prog) w he (xs:=(s.map uv).toArray) (off:=i*1) (v:=.int .u32 ((bG s i).toNat:Int)) (by rw[Nat.mul_one,oM s i (by omega)];simp[show i<s.length by omega,uv]);rw[Nat.mul_one] at p1;simp[Instr.index,asIntOf,run_underlying hu,hi,go_sem];rw[List.getElem?_eq_getElem (by omega),oM s i (by omega)];rfl
def jO (s:List (BitVec 32))(k:Nat):bK:=(ew (s.take k)).map bv++cz (32-4*k) (.int .u8 0)
theorem Hz (s:List (BitVec 32))(k:Nat)(hs:s.length=8)(hk:k≤8):(jO s k).length=32:=by simp[jO,jA,hs];omega
theorem Nh (s:List (BitVec 32))(k:Nat)(hs:s.length=8)(hk:k<8)(n:Nat)(hn:(bG s k).toNat=n):
  (jO s k).take (4*k)++(im 4 n false).map bv++(jO s k).drop (4*k+4)=jO s (k+1):=by
 have hl:((ew (s.take k)).map bv).length=4*k:=by simp[jA,hs];omega
 have e1:(jO s k).take (4*k)=(ew (s.take k)).map bv:=by unfold jO;rw[←hl,List.take_left]
 have e2:(jO s k).drop (4*k+4)=cz (32-4*(k+1)) (.int .u8 0):=by
  unfold jO;rw[←List.drop_drop,←hl,List.drop_left,hl,List.drop_replicate]
  congr 1
 rw[e1,e2];unfold jO;have e3:s.take (k+1)=s.take k++[bG s k]:=by rw[List.take_succ_eq_append_getElem (by omega),oM s k (by omega)]
 rw[e3,sr,List.map_append,ew,ew,List.append_nil,hn];simp[im]
def aV:Array Value:=(cz 32 (Value.int .u8 0)).toArray
structure Ky (w:aw)(gs gr go:Nat)(s:List (BitVec 32))(o:bK)(W:aw):Prop where
 s:Wd W gs 141 s
 res:W.heap[gr]?=some (.cells aV 24 (0,0))
 out:W.heap[go]?=some (.cells o.toArray 24 (0,0))
 nso:gs≠go
 nro:gr≠go
 br:w.heap.size≤gr
 bo:w.heap.size≤go
 aY:Below w.heap.size w W
theorem Ky.new (w:aw)(s:List (BitVec 32)):Ky w w.heap.size (w.heap.size+1) (w.heap.size+1+1) s (jO s 0) (((w.alloc (.cells (s.map uv).toArray 141)).alloc (.cells aV 24)).alloc (.cells aV 24)):=by
 have h0:=Wd.new w 141 s;have h1:=eC (w.alloc (.cells (s.map uv).toArray 141)) (.cells aV 24);have h2:=eC ((w.alloc (.cells (s.map uv).toArray 141)).alloc (.cells aV 24)) (.cells aV 24);rw[fx] at h1;rw[fx,fx] at h2;refine⟨?_,?_,h2,by omega,by omega,by omega,by omega,?_⟩
 ·unfold Wd;rw[jE _ _ _ (by simp;omega),jE _ _ _ (by simp)];exact h0
 ·rw[jE _ _ _ (by simp)];exact h1
 ·exact(eF.alloc (by simp) _).alloc (by simp;omega) _
theorem Ky.later {w W W':aw}{gs gr go:Nat}{s:List (BitVec 32)}{o:bK}(t:Ky w gs gr go s o W)(hb:Below W.heap.size W W'):Ky w gs gr go s o W':=
 ⟨t.s.later hb,by rw[hb.block _ (gD.1 t.res).1];exact t.res,by rw[hb.block _ (gD.1 t.out).1];exact t.out,t.nso,t.nro,t.br,t.bo,t.aY.trans (hb.mono t.aY.size)⟩
theorem Ky.put {w W:aw}{gs gr go:Nat}{s:List (BitVec 32)}{o:bK}(t:Ky w gs gr go s o W)(o':bK):Ky w gs gr go s o' (W.setRow go o'.toArray):=by
 refine⟨?_,?_,setRow_heap W go _ _ _ _ t.out,t.nso,t.nro,t.br,t.bo,below_setRow t.aY t.bo _⟩
 ·unfold Wd;rw[setRow_other _ _ _ _ t.nso];exact t.s
 ·rw[setRow_other _ _ _ _ t.nro];exact t.res
theorem KF (s:List (BitVec 32))(w:aw)(hs:s.length=8):
  Calls prog 103 #[.agg (s.map uv).toArray] w λe w'=>e= .returned (.agg ((ew s).map bv).toArray)∧Below w.heap.size w w':=by
 have sB:ae (Ky w w.heap.size (w.heap.size+1) (w.heap.size+1+1) s (jO s 0) (((w.alloc (.cells (s.map uv).toArray 141)).alloc (.cells aV 24)).alloc (.cells aV 24))):=Ky.new w s;have IS:ae ((prog.info? 141).map (·.size)=some (s.map uv).toArray.size):=jr (n:=8) (by kernel_rfl) s hs;have uo:=sB.o.s
 go_enter func103,ntmps103
 go_wp2_with (first|refine wpList_load_row rfl 141 _ rfl w.heap.size rfl 141 _ (0,0) _ uo underlying141 rfl IS.out ?_)
 clear uo;refine bY (P:=Code.wp prog _ _ _) (R:=λW=>ae (Ky w w.heap.size (w.heap.size+1) (w.heap.size+1+1) s (jO s 0) W)) _ sB ?_;intro W0 pY;clear sB;generalize w.heap.size+1+1=go at pY⊢
 generalize w.heap.size+1=gr at pY⊢
 generalize w.heap.size=gs at pY⊢
 go_loopw [7] (λi wr=>∃k:Nat,k≤8∧i= .int .i64 k∧ae (Ky w gs gr go s (jO s k) wr)) (λi _=>8-(intOf i).toNat)
 case atStart=>exact⟨0,by omega,rfl,pY⟩
 case round=>
  clear pY;obtain⟨k,hk,rfl,hO⟩:=hrel
  by_cases dN:k<8
  ·obtain⟨x,hx⟩:=aW (bG s k);obtain⟨n,Hl⟩:=aW (x.toNat);obtain⟨p,hp⟩:=aW (4*k);have i1:(k:Int)<8:=by omega
   have e1:IntKind.i64.wrap ((k:Int)*4)=(p:Int):=by rw[IntKind.wrap_i64];omega
   have TU:=Ft wr s k hs dN;rw[hx,Hl] at TU;have HE:ae ((jO s k).take p++(im 4 n false).map bv++(jO s k).drop (p+4)=jO s (k+1)):=by rw[←hp];exact Nh s k hs dN n (by rw[hx,Hl])
   have ab8:ae (IntKind.u64.wrap (n:Int)=(n:Int)):=by show _=_;have:=x.isLt;rw[IntKind.wrap_u64];omega
   obtain⟨W,hW⟩:=aW (wr.drew);have cL:Below wr.heap.size wr W:=by rw[←hW];exact gl
   have Sk:ae (Ky w gs gr go s (jO s k) W):=hO.out.later cL;have HW:ae (wr.drew=W):=hW;have h64:(p:Int)≤32:=by omega
   have aly:(p:Int)<32:=by omega
   have alz:¬32=p:=by omega
   clear hO cL hW hx Hl
   go_wp2
   clear TU;refine ah (G:=bI go) (by kernel_rfl) (bI.refl go) (bI.trans go) (by kernel_rfl) [(0,true),(1,true),(2,true),(3,true),(4,true),(5,false),(6,false)] rfl (by kernel_rfl) ?_;intro KK cA;rw[HW.o]
   iterate 5 (refine aa rfl (by rfl) (v:=?_) ?_ ?_;rotate_left;(intro w' hw';go_simp;with_reducible rfl);go_simp)
   refine aU (f:=76) (args:=#[.slice none 0 0,.int .i64 4,.int .u64 (n:Int),.bool false]) rfl (by rfl) (by go_simp;rw[ab8.o]) ?_;refine(ug none 0 0 4 n false [] _ (by omega) ⟨rfl,.inl rfl⟩ 4 (by decide)).mono ?_;rintro e w8 ⟨g8,rfl,ql,i9,Bi⟩;refine⟨_,rfl,bI.below go i9,?_⟩;have F6:=Sk.o.later i9;have alA:go<w8.heap.size:=(gD.1 F6.out).1;have hol:=Hz s k hs hk;have lY:=run_copy_row prog w8 22 22 3 5 go p (32-p) (32-p) ⟨g8,0,none⟩ (0+4) (0+4) _ _ ((im 4 n false).map bv) underlying22 Tryz.info1U8 F6.out
    (by rw[List.length_map,eU];show 4=min (0+4) (32-p);omega) (λj v hj=>Bi.cells _ rfl j v (by simpa using hj)) (by simp[eU,hol];omega) (bd _)
   have Be:((im 4 n false).map bv).length=4:=by simp[eU]
   rw[Be] at lY;simp only[] at lY;rw[HE.o] at lY;have X7:ae (Ky w gs gr go s (jO s (k+1)) (w8.setRow go (jO s (k+1)).toArray)):=F6.put _;have X8:ae (bI go w8 (w8.setRow go (jO s (k+1)).toArray)):=bI.setRow _ _ _;generalize w8.setRow go (jO s (k+1)).toArray=W9 at lY X7 X8
   clear F6 Bi i9 HE Sk hol;go_simp
   refine fZ (w':=W9) (v:=goInt 4) rfl (by rfl) (by go_simp) X8.o ?_;go_simp
   refine az cA ?_
   go_wp2
   exact⟨⟨k+1,by omega,by go_num,X7⟩,by simp[intOf];omega⟩
  ·have ek:k=8:=by omega
   have G':¬(k:Int)<8:=by omega
   obtain⟨B,hB⟩:=aW (ew s);have MV:B.length=32:=by rw[←hB,jA,hs]
   have HBe:ae (ew s=B):=hB;have HO:ae (Ky w gs gr go s (B.map bv) wr):=by
    have:=hO.out;rw[ek] at this;have e:jO s 8=B.map bv:=by rw[←hB];simp[jO,su (Nat.le_of_eq hs)]
    rw[e] at this;exact this
   have IB:ae ((prog.info? 24).map (·.size)=some (B.map bv).toArray.size):=cW (n:=32) (by kernel_rfl) B MV;have xA:=aL wr gr _ _ (B.map bv) HO.o.res (by simp[MV,aV]) (bd B);have bh:=setRow_heap wr gr _ (B.map bv).toArray _ _ HO.o.res;have bR:ae (Below w.heap.size w (wr.setRow gr (B.map bv).toArray)):=below_setRow HO.o.aY HO.o.br _;obtain⟨W4,fj⟩:=aW (wr.setRow gr (B.map bv).toArray);rw[fj] at xA bh bR;have cY:ae (W4.heap[gr]?=some (.cells (B.map bv).toArray 24 (0,0))):=bh;clear bh fj hO hB
   go_wp2_with (first|refine wpList_load_row rfl 24 _ rfl go rfl 24 _ (0,0) _ HO.o.out underlying24 rfl IB.out ?_)
   (try simp only[nu,Exit.then])
   refine bodyPost_ret (results_cell_row rfl _ _ gr 24 _ (0,0) _ rfl cY.o underlying24 rfl IB.out) rfl ?_;exact⟨by rw[HBe.o],bR.o⟩
section
variable {P:Program} {ops:Array Oper} {Q:Exit→Act→aw→Prop} {md:Region.Mode} {G:aw→aw→Prop}
def uF (md:Region.Mode)(ops:Array Oper)(listed:Array Bool):Prop:=∀k o,ops[k]?=some o→listed.getD k false=true→∀e∈o.after,Region.binds md e=true→listed.getD e.on false=true
theorem Gg {listed:Array Bool}{i x:Nat}(h:listed.getD x false=true):(listed.setIfInBounds i true).getD x false=true:=by
 by_cases hx:i=x
 ·subst hx
  rcases Nat.lt_or_ge i listed.size with h'|h'
  ·simp[h']
  ·simp[h'] at h
 ·rw[getD_set_ne false hx];exact h
theorem uF.set {listed:Array Bool}{i:Nat}(h:uF md ops listed)(hi:i∈Region.ready md ops listed):uF md ops (listed.setIfInBounds i true):=by
 intro k o ho hk e he hb;obtain⟨_,oi,Xq,il⟩:=mem_ready.1 hi
 by_cases hik:i=k
 ·subst hik;rw[Xq] at ho;cases ho
  exact Gg (il e he hb)
 ·rw[getD_set_ne false hik] at hk;exact Gg (h k o ho hk e he hb)
theorem uF.none (n:Nat):uF md ops (Array.replicate n false):=by
 intro k o _ hk
 rcases Nat.lt_or_ge k n with h'|h'
 ·simp[h'] at hk
 ·simp[h'] at hk
def Gh (md:Region.Mode)(ops:Array Oper)(j:Nat):Bool:=
 match ops[j]? with
 |none=>false
 |some o=>(List.range ops.size).all λk=>k==j||o.after.any λe=>Region.binds md e&&(e.on==k||match ops[e.on]? with|some o2=>o2.after.any λe2=>Region.binds md e2&&e2.on==k|none=>false)
theorem Ni {listed:Array Bool}{i j:Nat}(hc:uF md ops listed)(h:Gh md ops j=true)(hj:j∈Region.ready md ops listed)(hi:i∈Region.ready md ops listed)(Ws:j≠i):False:=by
 obtain⟨_,oj,S5,il⟩:=mem_ready.1 hj;obtain⟨S6,oi,Xq,_⟩:=mem_ready.1 hi;simp only[Gh,S5,List.all_eq_true,List.mem_range] at h;have dN:i<ops.size:=(gD.1 Xq).1;have h1:=h i dN;have ZR:listed.getD i false=true→False:=λh2=>by
  rcases Nat.lt_or_ge i listed.size with h'|h'
  ·simp[h'] at S6 h2;rw[S6] at h2;cases h2
  ·simp[h'] at h2
 simp only[Bool.or_eq_true,beq_iff_eq] at h1
 rcases h1 with h1|h1
 ·exact Ws h1.symm
 ·obtain⟨q,hq,hqq⟩:=Array.any_eq_true.1 h1;obtain⟨hb,sA⟩:=Bool.and_eq_true_iff.1 hqq;have h2:=il _ (Array.getElem_mem hq) hb;simp only[Bool.or_eq_true,beq_iff_eq] at sA
  rcases sA with sA|sA
  ·rw[sA] at h2;exact ZR h2
  ·cases B6:ops[oj.after[q].on]? with
   |none=>rw[B6] at sA;cases sA
   |some o2=>
    rw[B6] at sA;obtain⟨r,hr,cM,Ul⟩:∃(r:Nat) (hr:r<o2.after.size),Region.binds md o2.after[r]=true∧o2.after[r].on=i:=by simpa using sA
    have h3:=hc _ o2 B6 h2 _ (Array.getElem_mem hr) cM;rw[Ul] at h3;exact ZR h3
theorem Fu {j:Nat}(h:CW md ops j=true):Gh md ops j=true:=by
 unfold CW at h;unfold Gh;cases ho:ops[j]? with
 |none=>rw[ho] at h;cases h
 |some o=>
  rw[ho] at h;simp only[List.all_eq_true,List.mem_range,Bool.or_eq_true,beq_iff_eq] at h⊢;intro k hk
  rcases h k hk with h1|h1
  ·exact .inl h1
  ·right
   obtain⟨q,hq,hb,sA⟩:∃(q:Nat) (hq:q<o.after.size),Region.binds md o.after[q]=true∧o.after[q].on=k:=by simpa using h1
   rw[Array.any_eq_true];exact⟨q,hq,by simp[hb,sA]⟩
def yv (P:Program)(md:Region.Mode)(ops:Array Oper)(Q:Exit→Act→aw→Prop)(G:aw→aw→Prop):Nat→Array Bool→Act→aw→Prop
 |0,listed,a,w=>Region.ready md ops listed=[]∧Q .normal a w
 |fuel+1,listed,a,w=>
  (Region.ready md ops listed=[]→Q .normal a w)∧
  ∀i∈Region.ready md ops listed,wpOp P ops Q i (λa' w'=>(G w w'∨Gh md ops i=true)∧yv P md ops Q G fuel (listed.setIfInBounds i true) a' w') a w
theorem DK:∀(fuel:Nat) (listed:Array Bool) (a:Act) (w:aw),yv P md ops Q G fuel listed a w→wpAny P md ops Q fuel listed a w
 |0,_,_,_,h=>h
 |fuel+1,_,_,_,h=>⟨h.1,λi hi=>wpOp_mono (λa' w' h'=>DK fuel _ a' w' h'.2) (h.2 i hi)⟩
theorem zK (hrefl:∀w,G w w)(ir:∀a b c,G a b→G b c→G a c){i:Nat}{oi:Oper}{v:Value}(hi:ops[i]?=some oi)(S7:∀(j:Nat) (o:Oper) cs b,ops[j]?=some o→o.op≠.select cs b)
  (hQ:∀c a w,Q (.panic c) (a.put oi.dst v) w→Q (.panic c) a w):
  ∀(fuel:Nat) (listed:Array Bool) (a:Act) (w:aw),uF md ops listed→
   (∀j oj,ops[j]?=some oj→j≠i→listed.getD j true=false→(∀e∈oj.after,Region.binds md e=true→e.on≠i)→oi.apart ops oj=true)→
   i∈Region.ready md ops listed→YieldsIf P ops (G w) oi v a→
   yv P md ops Q G fuel (listed.setIfInBounds i true) (a.put oi.dst v) w→yv P md ops Q G (fuel+1) listed a w:=by
 intro fuel
 induction fuel with
 |zero=>
  intro listed a w _ _ hr hy H;refine⟨λh=>(by rw[h] at hr;cases hr),λj hj=>?_⟩
  by_cases tM:j=i
  ·subst tM;exact hy.wpOp hi (hrefl w) ⟨.inl (hrefl w),H⟩
  ·have:=ready_mono hj tM;rw[H.1] at this;cases this
 |succ fuel ih=>
  intro listed a w jc JO hr hy H;refine⟨λh=>(by rw[h] at hr;cases hr),λj hj=>?_⟩
  by_cases tM:j=i
  ·subst tM;exact hy.wpOp hi (hrefl w) ⟨.inl (hrefl w),H⟩
  ·have h1:=H.2 j (ready_mono hj tM);obtain⟨S8,oj,S5,il⟩:=mem_ready.1 hj;have abh:∀e∈oj.after,Region.binds md e=true→e.on≠i:=λe he hb heq=>by
    have h1:=il e he hb;have h0:=(mem_ready.1 hr).1;rw[heq] at h1
    rcases Nat.lt_or_ge i listed.size with h'|h'
    ·simp[h'] at h0 h1;rw[h0] at h1;cases h1
    ·simp[Array.getElem?_eq_none h'] at h1
   have h2:=wpOp_putIf S5 (JO j oj S5 tM S8 abh) (λcs b=>S7 i oi cs b hi) (λcs b=>S7 j oj cs b S5) hQ hy h1;have Mq:∀k ok,ops[k]?=some ok→k≠i→(listed.setIfInBounds j true).getD k true=false→
     (∀e∈ok.after,Region.binds md e=true→e.on≠i)→oi.apart ops ok=true:=λk ok hk sM ZR hno=>by
    refine JO k ok hk sM ?_ hno
    by_cases hjk:j=k
    ·subst hjk;exact S8
    ·rw[getD_set_ne true hjk] at ZR;exact ZR
   refine wpOp_mono (λa' w' h3=>?_) h2;have hG:G w w':=h3.2.1.resolve_right (λhe=>Ni jc he hj hr tM);refine⟨.inl hG,ih (listed.setIfInBounds j true) a' w' (jc.set hj) Mq (ready_mono hr (Ne.symm tM)) (vd h3.1 (λw2 JP=>ir _ _ _ hG JP)) ?_⟩;rw[Array.setIfInBounds_comm _ _ tM];exact h3.2.2
theorem zL {md:Region.Mode}(hmd:md= .any)(hrefl:∀w,G w w)(ir:∀a b c,G a b→G b c→G a c)(hs:Region.noSelect ops=true)(hQ:∀c a w d v,Q (.panic c) (a.put d v) w→Q (.panic c) a w)(fuel:Nat)(nC:Array Bool):
  ∀(s:List (Nat×Bool)) (listed:Array Bool) (a:Act) (w:aw),uF md ops listed→jJ md ops s listed=some nC→
   dW P ops Q G (λa w=>yv P md ops Q G fuel nC a w) s a w→yv P md ops Q G (fuel+s.length) listed a w
 |[],listed,a,w,_,h,H=>by simp only[jJ,Option.some.injEq] at h;subst h;exact H
 |(i,b)::r,listed,a,w,jc,h,H=>by
  obtain⟨o,ho,H⟩:=H;unfold jJ at h;split at h
  case isFalse=>cases h
  rename_i hc
  have Mp:i∈Region.ready md ops listed∧Region.free md ops listed i=true∧(b=false→Region.ready md ops listed=[i]):=by
   cases b
   ·simp only[cond_false,Bool.and_eq_true,beq_iff_eq] at hc;exact⟨by rw[hc.1];simp,hc.2,λ_=>hc.1⟩
   ·simp only[cond_true,Bool.and_eq_true] at hc;exact⟨by simpa using hc.1,hc.2,λe=>by cases e⟩
  obtain⟨hr,hf,JQ⟩:=Mp;have ih:=λa w H=>zL hmd hrefl ir hs hQ fuel nC r (listed.setIfInBounds i true) a w (jc.set hr) h H;show yv P md ops Q G ((fuel+r.length)+1) listed a w
  rcases H with⟨hw,H⟩|⟨hw,⟨v,hv,H⟩|⟨hb,H⟩⟩
  ·exact zK hrefl ir ho (Region.noSelect_spec hs) (λc a w=>hQ c a w _ _) _ listed a w jc (Region.free_spec ho hf) hr (.inr ⟨hw,rfl⟩) (ih _ _ H)
  ·exact zK hrefl ir ho (Region.noSelect_spec hs) (λc a w=>hQ c a w _ _) _ listed a w jc (Region.free_spec ho hf) hr (.inl ⟨hw,hv⟩) (ih _ _ H)
  ·refine⟨λh0=>absurd h0 (by rw[JQ hb];simp),λj hj=>?_⟩;rw[JQ hb] at hj;simp only[List.mem_singleton] at hj;subst hj;unfold wpOp;simp only[ho,hw,if_true];exact .inl (Oper.wp_mono (λa' w' h'=>⟨h'.1.imp id (λhe=>by rw[hmd];exact Fu he),ih a' w' h'.2⟩) H)
theorem j6 {id:Nat}{a:Act}{w:aw}(hm:P.follows .mixedOrders=true)(hrefl:∀w,G w w)(ir:∀a b c,G a b→G b c→G a c)(hs:Region.noSelect ops=true)
  (s:List (Nat×Bool)) (j:Nat) (oj:Oper) (hj:ops[j]?=some oj) (l:Array Bool) (jH:1+s.length=ops.size) (JR:jJ .any ops s (Array.replicate ops.size false)=some l)
  (hr:Region.ready .any ops l=[j]) (zp:Region.ready .any ops (l.setIfInBounds j true)=[]) (he:Gh .any ops j=true)
  (h:∀K:Act→aw→Prop,ae (∀a w w',Region.wanted oj (yielded ops a.tmps)=true→(execOp a.eval oj).run P w= .ok .skip w'→Q .normal (a.put oj.dst ag) w'→K a w)→dW P ops (NoPanic Q) G K s a w.drew):(Code.region id ops true).wp P Q a w:=by
 refine wp_region_noPanic (wp_region_any hm (DK (G:=G) _ _ _ _ ?_));have:=zL (Q:=NoPanic Q) rfl hrefl ir hs (λ_ _ _ _ _ h=>h) 1 l s (Array.replicate ops.size false) a w.drew (uF.none _) JR (h _ ?_)
 ·rw[jH] at this;exact this
 ·intro a w w' hw x9 hq;refine⟨λh0=>absurd h0 (by rw[hr];simp),λi hi=>?_⟩;rw[hr] at hi;simp only[List.mem_singleton] at hi;subst hi;unfold wpOp;simp only[hj,hw,if_true]
  left
  unfold Oper.wp;rw[x9];exact⟨.inr he,zp,hq⟩
end
theorem af {p:Prop}(h:p):ae p:=h
theorem cC {P:Program}{ops:Array Oper}{Q:Exit→Act→aw→Prop}{md:Region.Mode}{G:aw→aw→Prop}{fuel:Nat}{listed:Array Bool}{a:Act}{w:aw}(L:List Nat)(hr:Region.ready md ops listed=L)(eL:L.isEmpty=false)
  (h:∀i∈L,∃o,ops[i]?=some o∧Region.wanted o (yielded ops a.tmps)=true∧o.wp P a w (λa' w'=>G w w'∧kV P md ops Q G fuel (listed.setIfInBounds i true) a' w') Q):kV P md ops Q G (fuel+1) listed a w:=by
 refine⟨λh0=>?_,λk hk=>?_⟩
 ·rw[hr] at h0;rw[h0] at eL;cases eL
 ·rw[hr] at hk;obtain⟨o,ho,hw,Yq⟩:=h k hk;unfold wpOp;simp only[ho,hw,if_true];exact .inl (Oper.wp_mono (λa' w' h=>⟨.inl h.1,h.2⟩) Yq)
theorem wp_cut {P:Program}{c:Code}{Q:Exit→Act→aw→Prop}{a:Act}{w:aw}(K:Act→aw→Prop)(h:c.wp P (λe a w=>e= .normal∧K a w) a w)(hk:∀a w,K a w→Q .normal a w):c.wp P Q a w:=
 Code.wp_mono (λe a w h=>by obtain⟨he,hK⟩:=h;subst he;exact hk a w hK) h
end Go.Proofs.YtkdpblbhcfhagaaGreatDoor
