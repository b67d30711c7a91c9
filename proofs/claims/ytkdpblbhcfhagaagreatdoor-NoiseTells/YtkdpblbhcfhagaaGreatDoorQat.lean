import Derived.Test.YtkdpblbhcfhagaaGreatDoorQas
namespace Go.Proofs.YtkdpblbhcfhagaaGreatDoor
open Go.Proofs.Tryz
open _root_.Nat renaming le_refl → di, le_trans → kx, lt_of_lt_of_le → tV
open Go.RowKit.Below renaming refl → bZ, heap_alloc → jE
open Go.World renaming size_alloc → fx
open _root_.Array renaming getElem?_eq_some_iff → gD
open Go renaming undef → ag, World → aw, heap_alloc_new → eC
open _root_.List renaming replicate → cz, not_mem_nil → nj, mem_cons → mg, take_of_length_le → su
open Go.Exit renaming inBlock → nu
set_option maxHeartbeats 64000000
set_option linter.unusedVariables false
set_option maxRecDepth 100000
open Go.RowKit
def anG (W:aw)(a:bW)(n c:Nat):Prop:=∃g cur t fr,a=some ⟨g,0,none⟩∧W.heap[g]?=some (.cells cur t fr)∧(∀i,i<cur.size→fr.1≤i→¬i<fr.2)∧n≤c∧c≤cur.size
structure NM (w:aw)(l:aO)(a:bW)(n c:Nat)(W:aw):Prop where
 b:∃L,bj W a n L∧L++cz (32-n) 0=dU l
 row:n<32→anG W a n c
 nb:∀j,bL a=some j→w.heap.size≤j
 nc:n≤c
 n32:n≤32
 aY:Below w.heap.size w W
theorem GJ {w W:aw}{l:aO}{a:bW}{n c:Nat}(x:NM w l a n c W)(hn:n<32):
  ∃a' c' W',(Builtin.append_ #[22,22] 22 #[.slice a n c,.slice (some ⟨W.heap.size,0,none⟩) 1 1]).run prog (W.alloc (.cells #[.int .u8 0] 5))= .ok (.slice a' (n+1) c') W'∧NM w l a' (n+1) c' W':=by
 obtain⟨i0,hi,uf,pH,uZ⟩:=info_parts Tryz.infoU8;obtain⟨g,cur,t,fr,rfl,hg,Mp,uj,gw⟩:=x.row hn;obtain⟨L,Jc,hL⟩:=x.b;have oa:g<W.heap.size:=(gD.1 hg).1;have hwg:w.heap.size≤g:=x.nb g rfl;obtain⟨Z,hZ⟩:=aW (W.alloc (.cells #[.int .u8 0] 5));have hZ0:Z.cell? ⟨W.heap.size,0,none⟩=some (.int .u8 0):=by rw[←hZ,cell_of_row _ _ _ _ _ _ (eC W _)];rfl
 have hZb:Below W.heap.size W Z:=by rw[←hZ];exact(bZ _ _).alloc (di _) _
 have hZs:Z.heap.size=W.heap.size+1:=by rw[←hZ];simp
 have hZg:Z.heap[g]?=some (.cells cur t fr):=(hZb.block g oa).trans hg;have hB:=Jc.later hZb;have hl:=Jc.1;have VU:=x.aY.trans (hZb.mono x.aY.size);rw[hZ];have aaZ:∀j u,[Value.int .u8 0][j]?=some u→Z.cell? ((⟨W.heap.size,0,none⟩:Addr).add j)=some u:=by
  intro j u hj;cases j with
  |zero=>cases hj;rw[addr_add];exact hZ0
  |succ j=>simp at hj
 have hL1:(L++[0])++cz (32-(n+1)) 0=dU l:=by rw[←hL,List.append_assoc,show 32-n=(32-(n+1))+1 by omega,List.replicate_succ];rfl
 by_cases FQ:n+1≤c
 ·have hnl:n<cur.size:=by omega
  have fl:Z.cell? ⟨g,n,none⟩=some cur[n]:=by simp[World.cell?,hZg,hnl]
  have abj:Z.frozen? ⟨g,n,none⟩=false:=by
   obtain⟨lo,up⟩:=fr;have h2:=Mp n hnl;simp only[World.frozen?,hZg,Bool.and_eq_false_iff,decide_eq_false_iff_not]
   by_cases h3:lo≤n
   ·exact .inr (h2 h3)
   ·exact .inl h3
  have xA:(storeCells ⟨g,n,none⟩ [.int .u8 0]).run prog Z= .ok () (Z.setCell ⟨g,n,none⟩ (.int .u8 0)):=by
   have e0:(⟨g,n,none⟩:Addr).add 0=⟨g,n,none⟩:=by rw[addr_add];rfl
   have h1:(store ((⟨g,n,none⟩:Addr).add 0) (.int .u8 0)).run prog Z= .ok () (Z.setCell ⟨g,n,none⟩ (.int .u8 0)):=by rw[e0,run_store prog Z _ (.int .u8 0) _ rfl,fl];simp[abj]
   simp only[storeCells,Sem.run_bind,h1];rfl
  have hf:=run_firstCells_some (P:=prog) Z 1 1 ⟨W.heap.size,0,none⟩ 1 1 [.int .u8 0] rfl aaZ;have Xh:bj (Z.setCell ⟨g,n,none⟩ (.int .u8 0)) (some ⟨g,0,none⟩) (n+1) (L++[0]):=by
   refine⟨by simp[hl],.inr ⟨g,0,rfl,λi hi=>?_⟩⟩;rw[Nat.zero_add]
   by_cases e:i=n
   ·subst e;rw[World.cell?_setCell_same _ _ _ fl,cP _ _ (by simp;omega)];simp[hl,List.getElem_append_right]
   ·rw[World.cell?_setCell_other _ _ _ _ (by intro h;cases h;exact e rfl)];obtain⟨b',o',e',MG⟩:=hB.at_ i (by omega);cases e'
    rw[Nat.zero_add] at MG;rw[MG,cP _ _ (by omega),cP _ _ (by simp;omega)];simp[List.getElem_append_left,show i<L.length by omega]
  refine⟨some ⟨g,0,none⟩,c,Z.setCell ⟨g,n,none⟩ (.int .u8 0),?_,⟨⟨L++[0],Xh,hL1⟩,λ_=>?_,x.nb,FQ,by omega,?_⟩⟩
  ·simp[Builtin.append_,run_underlying underlying22,sizeOf,typeInfo,hi,pH,Builtin.lenOf,FQ,hf,Addr.add_lit,xA]
  ·refine⟨g,cur.setIfInBounds n (.int .u8 0),t,fr,rfl,?_,by simpa using Mp,FQ,by simpa using gw⟩;rw[setCell_eq_setRow Z g n cur t fr (.int .u8 0) hZg];exact setRow_heap Z g _ _ t _ hZg
  ·exact VU.setCell hwg _
 ·have hBr:∀j v,(L.map bv)[j]?=some v→Z.cell? ((⟨g,0,none⟩:Addr).add j)=some v:=hB.cells _ rfl;have hr:=run_append_grow (P:=prog) (w:=Z) 22 22 5 i0 (.int .u8 0) underlying22 hi uf ⟨g,0,none⟩ n c (L.map bv) (by rw[pH];simp[hl]) hBr ⟨W.heap.size,0,none⟩ 1 1 [.int .u8 0] (by rw[pH];rfl) aaZ (by omega) (by omega) (by
   have hc:c=n:=by omega
   subst hc;rw[uZ];have:∀q:Fin 32,Builtin.nextslicecap (q.val+1) q.val*1≤281474976710656:=by decide+kernel
   exact this ⟨c,hn⟩)
  have hs:Z.drew.heap.size=Z.heap.size:=rfl;have jc:∀q,((L.map bv).toArray++[Value.int .u8 0].toArray++Builtin.zeroCells (Value.int .u8 0).cells q).size=n+1+q:=λq=>by simp[hl,Builtin.zeroCells,Value.cells]
  have lY:=grownCap_ge Z (n+1) c 5;refine⟨some ⟨Z.heap.size,0,none⟩,_,_,hr,⟨⟨L++[0],?_,hL1⟩,λ_=>⟨_,_,_,_,rfl,eC Z.drew _,(λi _ _ h=>by cases h),lY,by rw[jc];omega⟩,?_,lY,by omega,?_⟩⟩
  ·refine⟨by simp[hl],.inr ⟨_,0,rfl,λi hi=>?_⟩⟩;have kj:=eC Z.drew (.cells ((L.map bv).toArray++[Value.int .u8 0].toArray++Builtin.zeroCells (Value.int .u8 0).cells (grownCap Z (n+1) c 5-(n+1))) 5);rw[hs] at kj;rw[Nat.zero_add,cell_of_row _ _ _ _ _ _ kj,cP _ _ (by simp;omega)];have h1:i<((L.map bv).toArray++[Value.int .u8 0].toArray).size:=by simp;omega
   rw[Array.getElem?_append_left h1];have h2:((L.map bv).toArray++[Value.int .u8 0].toArray)=((L++[0]).map bv).toArray:=by simp[bv]
   rw[h2];simp only[List.getElem?_toArray,List.getElem?_map];rw[List.getElem?_eq_getElem (by simp;omega)];rfl
  ·intro j hj;have:Z.heap.size=j:=by simpa[bL] using hj
   have:=x.aY.size;omega
  ·exact(VU.drew).alloc (by rw[hs];exact VU.size) _
theorem PI (W:aw):(Instr.makeSlice 22 (.int .i64 32) (.int .i64 32)).run prog W= .ok (.slice (some ⟨W.heap.size,0,none⟩) 32 32) (W.alloc (.cells ((cz 32 (0:UInt8)).map bv).toArray 5)):=tv W 32 (by omega)
theorem Zx (w:aw)(l:aO)(hl:l.length≤32):NM w l (some ⟨w.heap.size,0,none⟩) l.length (grownCap w l.length 0 5) (Lib.bytesWorld w 5 (S l)):=by
 have lY:=grownCap_ge w l.length 0 5;have jH:(S l).size=l.length:=rfl;refine⟨⟨l,Eb w 5 l,?_⟩,λ_=>⟨_,_,_,_,rfl,Lib.bytesWorld_at_new w 5 (S l),(λi h1 h2=>by simp only at h2;omega),lY,?_⟩,?_,lY,hl,yy w _ _⟩
 ·unfold dU;rw[if_neg (by omega)]
 ·simp[Lib.bytesCells,jH];omega
 ·intro j hj;have:w.heap.size=j:=by simpa[bL] using hj
  omega
theorem FE (l:aO)(w:aw)(FW:l.length≤1000):
  Calls prog 24 #[.string (S l)] w λe w'=>∃g,e= .returned (.pointer (some ⟨g,0,none⟩))∧w.heap.size≤g∧Below w.heap.size w w'∧RMX w' g (λy=>y<w.heap.size) (dU l) (dU l) (cz 32 0) false 0:=by
 have hcv:=λW=>Gq W l;have jH:(S l).size=l.length:=rfl;rw[jH] at hcv;have PD:ae (l.length≤32→NM w l (some ⟨w.heap.size,0,none⟩) l.length (grownCap w l.length 0 5) (Lib.bytesWorld w 5 (S l))):=Zx w l;have xU:=Eb w 5 l;have ik:=yy w 5 (S l);have Rg:=grownCap_le_maxLen w l.length 0 5 (by unfold maxLen;omega);have Bz:=grownCap_ge w l.length 0 5;obtain⟨V,hV⟩:=aW (Lib.bytesWorld w 5 (S l));obtain⟨cp,lY⟩:=aW (grownCap w l.length 0 5);have ad':=hcv w;rw[hV,lY] at ad';rw[hV,lY] at PD;rw[hV] at xU ik;rw[lY] at Rg Bz;obtain⟨n,hn⟩:=aW (l.length);rw[hn] at ad' PD xU Bz FW;have HN:=aj hn;have EW:=aj xU;have Hb0:=aj ik;clear hcv jH hV lY hn xU ik
 go_enter func24,ntmps24
 by_cases Gj:32<n
 ·have hli:(32:Int)<(n:Int):=by omega
  go_wp2_with fail
  refine(j7 (some ⟨w.heap.size,0,none⟩) n cp l V EW.o (λe=>by cases e) (by omega) Bz).mono ?_;rintro e w1 ⟨a1,c1,rfl,ck,jF,WB⟩;have hE:dc l=dU l:=by unfold dU;rw[if_pos (by rw[HN.o];exact Gj)]
  rw[hE] at jF;have hBs:=bj.gS jF;have EX:ae (NM w l a1 32 c1 w1):=⟨⟨_,hBs,by simp⟩,λh=>by omega,λj hj=>kx Hb0.o.size (WB j hj),jF.Ic,di _,Hb0.o.trans (ck.mono Hb0.o.size)⟩;clear ck jF WB hBs hE EW Hb0 ad' PD Rg Bz
  go_wp2_with fail
  go_loopw [3] (λv wr=>∃(a:bW) (m c:Nat),v= .slice a m c∧ae (NM w l a m c wr)) (λv _=>32-(match v with| .slice _ m _=>m|_=>0))
  case atStart=>exact⟨_,_,_,rfl,EX⟩
  case round=>
   clear EX;obtain⟨a,m,c,rfl,HM⟩:=hrel
   by_cases hm:m<32
   ·have hmi:(m:Int)<32:=by omega
    obtain⟨a',c',W',jS,hM'⟩:=GJ HM.o hm;have OX:=aj jS;have HM':=aj hM';clear jS hM' HM
    go_wp2_with (at_builtin;refine ao rfl (.tmp 14) (.tmp 15) 22 rfl _ _ _ _ rfl rfl OX.o ?_)
    exact⟨⟨a',m+1,c',rfl,HM'⟩,by show 32-(m+1)<32-m;omega⟩
   ·have em:m=32:=by have:=HM.o.n32;omega
    subst em;obtain⟨L,Zy,hL⟩:=HM.o.b;have hLL:L=dU l:=by rw[←hL];simp
    subst hLL;obtain⟨hb,ho,rfl,_⟩:=Zy.at_ 0 (by omega);have G6:=HM.o.nb hb rfl;have uj:=HM.o.nc;have fe:=HM.o.aY;have hzz:=PI;obtain⟨Zk,hZk⟩:∃Z,((cz 32 (0:UInt8)).map bv).toArray=Z:=⟨_,rfl⟩;rw[hZk] at hzz;have hK:=dz.new wr 5 (cz 32 0);rw[hZk] at hK;have iz:Below wr.heap.size wr (wr.alloc (.cells Zk 5)):=eF;obtain⟨Y,hY⟩:=aW (wr.alloc (.cells Zk 5));rw[hY] at hK iz;have pH:=hzz wr;rw[hY] at pH;have hKB:=hK.nw 32 rfl;have HB:=aj (Zy.later iz);have HK:=aj hKB;have HY:=aj (fe.trans (iz.mono fe.size));have hys:=iz.size;have dN:=Zy.lt (by omega);have hwl:=fe.size;have hky:=hK.lt;clear hzz hK iz hY hKB Zy hL fe HM hZk
    go_wp2_with fail
    go_ret
    refine⟨Y.heap.size,rfl,HY.o.size,HY.o.alloc HY.o.size _,⟨hb,ho,_,hb,ho,_,wr.heap.size,0,32,⟨eC Y _,uj,uj,by omega,by omega,HB.o.later eF,HB.o.later eF,HK.o.later eF,by omega,by omega,by omega⟩,by omega,by omega,by omega⟩⟩
 ·have hli:¬(32:Int)<(n:Int):=by omega
  have EX:=aj (PD.o (by omega));clear PD EW Hb0 Rg Bz
  go_wp2_with fail
  go_loopw [3] (λv wr=>∃(a:bW) (m c:Nat),v= .slice a m c∧ae (NM w l a m c wr)) (λv _=>32-(match v with| .slice _ m _=>m|_=>0))
  case atStart=>exact⟨_,_,_,rfl,EX⟩
  case round=>
   clear EX;obtain⟨a,m,c,rfl,HM⟩:=hrel
   by_cases hm:m<32
   ·have hmi:(m:Int)<32:=by omega
    obtain⟨a',c',W',jS,hM'⟩:=GJ HM.o hm;have OX:=aj jS;have HM':=aj hM';clear jS hM' HM
    go_wp2_with (at_builtin;refine ao rfl (.tmp 14) (.tmp 15) 22 rfl _ _ _ _ rfl rfl OX.o ?_)
    exact⟨⟨a',m+1,c',rfl,HM'⟩,by show 32-(m+1)<32-m;omega⟩
   ·have em:m=32:=by have:=HM.o.n32;omega
    subst em;obtain⟨L,Zy,hL⟩:=HM.o.b;have hLL:L=dU l:=by rw[←hL];simp
    subst hLL;obtain⟨hb,ho,rfl,_⟩:=Zy.at_ 0 (by omega);have G6:=HM.o.nb hb rfl;have uj:=HM.o.nc;have fe:=HM.o.aY;have hzz:=PI;obtain⟨Zk,hZk⟩:∃Z,((cz 32 (0:UInt8)).map bv).toArray=Z:=⟨_,rfl⟩;rw[hZk] at hzz;have hK:=dz.new wr 5 (cz 32 0);rw[hZk] at hK;have iz:Below wr.heap.size wr (wr.alloc (.cells Zk 5)):=eF;obtain⟨Y,hY⟩:=aW (wr.alloc (.cells Zk 5));rw[hY] at hK iz;have pH:=hzz wr;rw[hY] at pH;have hKB:=hK.nw 32 rfl;have HB:=aj (Zy.later iz);have HK:=aj hKB;have HY:=aj (fe.trans (iz.mono fe.size));have hys:=iz.size;have dN:=Zy.lt (by omega);have hwl:=fe.size;have hky:=hK.lt;clear hzz hK iz hY hKB Zy hL fe HM hZk
    go_wp2_with fail
    go_ret
    refine⟨Y.heap.size,rfl,HY.o.size,HY.o.alloc HY.o.size _,⟨hb,ho,_,hb,ho,_,wr.heap.size,0,32,⟨eC Y _,uj,uj,by omega,by omega,HB.o.later eF,HB.o.later eF,HK.o.later eF,by omega,by omega,by omega⟩,by omega,by omega,by omega⟩⟩
def rnV (gm ob oo oc nb no nc:Nat)(ra:bW)(rl rc sb so sc:Nat)(bP:Bool)(st:Nat):bK:=
 [.pointer (some ⟨gm,0,none⟩),.slice (some ⟨ob,oo,none⟩) 32 oc,.slice (some ⟨nb,no,none⟩) 32 nc,.slice ra rl rc,.slice (some ⟨sb,so,none⟩) 32 sc,.bool bP,.int .i64 (st:Int)]
structure RN (w:aw)(gh gm:Nat)(X:Nat→Prop)(x:NS)(m:MS)(ob oo oc nb no nc:Nat)(ra:bW)(rl rc sb so sc:Nat):Prop where
 row:w.heap[gh]?=some (.cells (rnV gm ob oo oc nb no nc ra rl rc sb so sc x.bP x.st).toArray 51 (0,0))
 ow:bj w (some ⟨ob,oo,none⟩) 32 x.own
 on:bj w (some ⟨nb,no,none⟩) 32 x.once
 rr:bj w ra rl x.R
 ss:bj w (some ⟨sb,so,none⟩) 32 x.S
 mx:x4 w gm (λy=>X y∨y=gh) m
 mm:x.st≠9→m=x.M
 hm:gh≠gm
 ng:(ob≠gh∧nb≠gh∧sb≠gh)∧ob≠gm∧nb≠gm∧sb≠gm
 rg:0<rl→∀y o f,ra=some ⟨y,o,f⟩→y≠gh∧y≠gm∧¬X y
 nx:¬X ob∧¬X nb∧¬X sb
section
variable {w w':aw} {gh gm:Nat} {X:Nat→Prop} {x:NS} {m:MS} {ob oo oc nb no nc:Nat} {ra:bW} {rl rc sb so sc:Nat}
theorem RN.lt (h:RN w gh gm X x m ob oo oc nb no nc ra rl rc sb so sc):gh<w.heap.size:=(gD.1 h.row).1
theorem RN.later (h:RN w gh gm X x m ob oo oc nb no nc ra rl rc sb so sc)(hb:Below w.heap.size w w'):RN w' gh gm X x m ob oo oc nb no nc ra rl rc sb so sc:=
 ⟨ks h.row hb,h.ow.later hb,h.on.later hb,h.rr.later hb,h.ss.later hb,h.mx.later hb,h.mm,h.hm,h.ng,h.rg,h.nx⟩
theorem RN.turned (h:RN w gh gm X x m ob oo oc nb no nc ra rl rc sb so sc){m':MS}(M':MS)(hG:w.grownBy w' (some gm))(hM:x4 w' gm (λy=>X y∨y=gh) m')(he:x.st≠9→m'=M'):RN w' gh gm X ⟨M',x.own,x.once,x.R,x.S,x.bP,x.st⟩ m' ob oo oc nb no nc ra rl rc sb so sc:=
 ⟨by rw[hG.block gh h.lt (λe=>h.hm (by cases e;rfl))];exact h.row,h.ow.but hG h.ng.2.1,h.on.but hG h.ng.2.2.1,oX h.rr hG (λhp y o f e=>(h.rg hp y o f e).2.1),h.ss.but hG h.ng.2.2.2,hM,he,h.hm,h.ng,h.rg,h.nx⟩
theorem RN.cells (h:RN w gh gm X x m ob oo oc nb no nc ra rl rc sb so sc):
  w.cell? ⟨gh,0,none⟩=some (.pointer (some ⟨gm,0,none⟩))∧w.cell? ⟨gh,1,none⟩=some (.slice (some ⟨ob,oo,none⟩) 32 oc)∧w.cell? ⟨gh,2,none⟩=some (.slice (some ⟨nb,no,none⟩) 32 nc)∧w.cell? ⟨gh,3,none⟩=some (.slice ra rl rc)∧
  w.cell? ⟨gh,4,none⟩=some (.slice (some ⟨sb,so,none⟩) 32 sc)∧w.cell? ⟨gh,5,none⟩=some (.bool x.bP)∧w.cell? ⟨gh,6,none⟩=some (.int .i64 (x.st:Int))∧∀i,w.frozen? ⟨gh,i,none⟩=false:=
 ⟨dB h.row rfl,dB h.row rfl,dB h.row rfl,dB h.row rfl,dB h.row rfl,dB h.row rfl,dB h.row rfl,λi=>frozen_of_row w gh i _ _ h.row⟩
theorem RN.setAt (h:RN w gh gm X x m ob oo oc nb no nc ra rl rc sb so sc)(st:Nat)(he:st≠9→m=x.M):RN (w.setCell ⟨gh,6,none⟩ (.int .i64 (st:Int))) gh gm X ⟨x.M,x.own,x.once,x.R,x.S,x.bP,st⟩ m ob oo oc nb no nc ra rl rc sb so sc:=by have hG:w.grownBy (w.setCell ⟨gh,6,none⟩ (.int .i64 (st:Int))) (some gh):=bI.setCell w gh 6 _;refine⟨by have:=kr h.row 6 (.int .i64 (st:Int));exact this,h.ow.but hG h.ng.1.1,h.on.but hG h.ng.1.2.1,oX h.rr hG (λhp y o f e=>(h.rg hp y o f e).1),h.ss.but hG h.ng.1.2.2,h.mx.but hG (.inr rfl) (λe=>h.hm e.symm),he,h.hm,h.ng,h.rg,h.nx⟩
end
theorem cV (gh gm:Nat)(X:Nat→Prop)(x:NS)(m:MS)(ob oo oc nb no nc:Nat)(ra:bW)(rl rc sb so sc:Nat)(er:Nat)(w:aw)(hR:RN w gh gm X x m ob oo oc nb no nc ra rl rc sb so sc):
  Calls prog 32 #[.pointer (some ⟨gh,0,none⟩),.int .i64 (er:Int)] w λe w'=>e= .returned (.tuple #[.slice none 0 0,.int .i64 (er:Int)])∧w.grownBy w' (some gh)∧RN w' gh gm X x.gI m ob oo oc nb no nc ra rl rc sb so sc:=by
 obtain⟨_,_,_,_,_,_,q7,f7⟩:=hR.cells;have f6:=f7 6;have HR:=ak (hR.setAt 9 (λh=>absurd rfl h));have HG:ae (w.grownBy (w.setCell ⟨gh,6,none⟩ (.int .i64 ((9:Nat):Int))) (some gh)):=bI.setCell w gh 6 _;clear hR f7
 go_enter func32,ntmps32
 go_wp2
 go_ret2
 exact⟨rfl,HG.o,HR.o⟩
theorem x5 (X:Nat→Prop)(pa:bW)(pl pc:Nat)(gj:aO)(ob oo oc:Nat)(own:aO)(sb so sc:Nat)(other:aO)(nb no nc:Nat)(once:aO)(w:aw)(hX:∀x,X x→x<w.heap.size)(nX:¬X ob∧¬X nb∧¬X sb)
  (hP:bj w pa pl gj) (LQ:pa=none→pc=0) (tN:pl≤1000) (hO:bj w (some ⟨ob,oo,none⟩) 32 own) (hS:bj w (some ⟨sb,so,none⟩) 32 other) (hN:bj w (some ⟨nb,no,none⟩) 32 once):
  Calls prog 8 #[.slice pa pl pc,.slice (some ⟨ob,oo,none⟩) 32 oc,.slice (some ⟨sb,so,none⟩) 32 sc,.slice (some ⟨nb,no,none⟩) 32 nc] w λe w'=>∃gh gm,e= .returned (.pointer (some ⟨gh,0,none⟩))∧w.heap.size≤gh∧w.heap.size≤gm∧Below w.heap.size w w'∧
   RN w' gh gm X (NS.jn aZ gj own other once) (NS.jn aZ gj own other once).M ob oo oc nb no nc none 0 0 sb so sc:=by
 have HP:=ak hP;have HO:=ak hO;have HS:=ak hS;have HN:=ak hN;have HX:=ak hX;have hol:=hO.lt (by omega);have Ae:=hS.lt (by omega);have hnl:=hN.lt (by omega);clear hP hO hS hN hX
 go_enter func8,ntmps8
 go_wp2_with fail
 refine(FE aZ w (by decide)).mono ?_;rintro e w1 ⟨gm,rfl,XK,ck,xu⟩;have Cs:ae (x4 w1 gm (λy=>y<w.heap.size) (MS.start aZ)):=xu;have fU:=ak ck;clear ck xu
 go_wp2_with fail
 obtain⟨cb,co,cc,hb,ho,hc,kb,ko,kc,hR,tT⟩:=Cs.o;refine(gZ gm cb co cc hb ho hc kb ko kc _ _ _ _ _ pa pl pc gj w1 hR (λy=>y<w.heap.size) (λx h=>tV h fU.o.size) tT (HP.o.later fU.o) LQ (by omega)).mono ?_;rintro e w2 ⟨⟨v2,rfl⟩,fH,wz⟩;clear hR tT cb co cc hb ho hc kb ko kc;have LY:ae (x4 w2 gm (λy=>y<w.heap.size) ((MS.start aZ).hash gj)):=wz;have fw:=ak (dI fU.o fH XK);clear fH wz Cs fU
 go_wp2_with fail
 obtain⟨cb,co,cc,hb,ho,hc,kb,ko,kc,hR,tT⟩:=LY.o;refine(gZ gm cb co cc hb ho hc kb ko kc _ _ _ _ _ (some ⟨sb,so,none⟩) 32 sc other w2 hR (λy=>y<w.heap.size) (λx h=>tV h fw.o.size) tT (HS.o.later fw.o) (λe=>by cases e) (by omega)).mono ?_;rintro e w3 ⟨⟨v3,rfl⟩,fP,vo⟩;clear hR tT cb co cc hb ho hc kb ko kc;have yS:ae (x4 w3 gm (λy=>y<w.heap.size) (((MS.start aZ).hash gj).hash other)):=vo;have pI:=ak (dI fw.o fP XK);clear fP vo LY fw
 go_wp2_with fail
 go_ret
 have hs:=pI.o.size;have iz:Below w3.heap.size w3 (w3.alloc (.cells (rnV gm ob oo oc nb no nc none 0 0 sb so sc true 0).toArray 51)):=eF;have fj:=pI.o.trans (iz.mono hs);have oa:=yS.o.lt;obtain⟨cb,co,cc,hb,ho,hc,kb,ko,kc,hR,h5,h6,h7⟩:=yS.o;have l1:=hR.cB.lt (by omega);have l2:=hR.hB.lt (by omega);have l3:=hR.kB.lt (by omega);exact⟨w3.heap.size,gm,rfl,hs,XK,fj,eC w3 _,HO.o.later fj,HN.o.later fj,⟨rfl,.inl rfl⟩,HS.o.later fj,
  ⟨cb,co,cc,hb,ho,hc,kb,ko,kc,hR.later iz,(λh=>h.elim (λh=>h5 (HX.o _ h)) (λh=>by omega)),(λh=>h.elim (λh=>h6 (HX.o _ h)) (λh=>by omega)),(λh=>h.elim (λh=>h7 (HX.o _ h)) (λh=>by omega))⟩,
  λ_=>rfl,by omega,⟨⟨by omega,by omega,by omega⟩,by omega,by omega,by omega⟩,λh=>by omega,nX⟩
def RNx (w:aw)(gh gm:Nat)(X:Nat→Prop)(x:NS):Prop:=∃m ob oo oc nb no nc ra rl rc sb so sc,RN w gh gm X x m ob oo oc nb no nc ra rl rc sb so sc
theorem FF (gh gm:Nat)(X:Nat→Prop)(x:NS)(m:MS)(ob oo oc nb no nc:Nat)(ra:bW)(rl rc sb so sc:Nat)(ba:bW)(lb cb:Nat)(b:aO)(w:aw)(hR:RN w gh gm X x m ob oo oc nb no nc ra rl rc sb so sc)(hX:∀y,X y→y<w.heap.size)
  (hB:bj w ba lb b) (kX:ba=none→cb=0) (FN:lb≤800) (rf:lb≤cb) (m7:cb≤maxLen) (pW:0<lb→∀y o f,ba=some ⟨y,o,f⟩→y≠gh∧y≠gm):
  Calls prog 11 #[.pointer (some ⟨gh,0,none⟩),.slice ba lb cb] w λe w'=>∃v,e= .returned (.tuple #[v,.int .i64 ((x.dv:Nat):Int)])∧eE gh gm w w'∧RNx w' gh gm X (x.first b)∧∃q,w'.ownsRow w.heap.size 5 1 v q ((if x.dv=0 then x.dV b else[]).map bv):=by
 have oa:=hR.lt;have rP:=hR.mx.lt;obtain⟨q0,q1,q2,q3,q4,q5,q6,_⟩:=hR.cells;have HR:=ak hR;have HX:=ak hX;have HB:=ak hB;have SB:=ak pW;clear hR hX hB pW
 by_cases hs:x.bP=true∧x.st=0
 ·obtain⟨jF,iJ⟩:=hs;have HS:=ak (And.intro jF iJ);rw[jF] at q5;rw[iJ] at q6;clear jF iJ
  go_enter func11,ntmps11
  go_wp2_with fail
  have FG:ae (∀W:aw,w.heap.size≤W.heap.size→∀y,(X y∨y=gh)→y<W.heap.size):=λW hW y h=>tV (h.elim (λh=>HX.o y h) (λh=>by rw[h];exact oa)) hW;have Hw:m=x.M:=HR.o.mm (by have:=HS.o.2;omega);subst Hw;refine(oL (some ⟨nb,no,none⟩) nc x.once w HR.o.on).mono ?_;rintro e w1 ⟨g1,rfl,uB,ck,pz⟩;have yL:ae (bj w1 (some ⟨g1,0,none⟩) 32 (bN x.once)):=pz;have uA:=ak (HR.o.later ck);have On:ae (eE gh gm w w1):=eE.below ck;obtain⟨p0,_⟩:=uA.o.cells;clear ck pz q0 q1 q2 q3 q4 q5 q6
  go_wp2_with fail
  obtain⟨c1,c2,c3,c4,c5,c6,c7,c8,c9,vO,tT⟩:=uA.o.mx;refine(gZ gm c1 c2 c3 c4 c5 c6 c7 c8 c9 x.M.C x.M.H x.M.K x.M.has x.M.n (some ⟨g1,0,none⟩) 32 32 (bN x.once) w1 vO (λy=>X y∨y=gh) (FG.o w1 On.o.size) tT yL.o (λe=>by cases e) (by omega)).mono ?_;rintro e w2 ⟨⟨v2,rfl⟩,fH,wz⟩;clear vO tT p0;obtain⟨m2,nO⟩:=aW (x.M.hash (bN x.once));have EI:x4 w2 gm (λy=>X y∨y=gh) m2:=by rw[←nO];exact wz
  obtain⟨W,hW⟩:=aW (w2.drew);have cL:Below w2.heap.size w2 W:=by rw[←hW];exact gl
  have pZ:=ak ((uA.o.turned m2 fH EI (λ_=>rfl)).later cL);have L3:=ak ((gu yL.o fH (λy o f e=>by cases e;omega)).later cL);have sG:ae (eE gh gm w W):=(On.o.trans (eE.right fH)).trans (eE.below cL);have pd:=ak hW;have Bp:ae (∀w',bI gm W w'→w'.cell? ⟨gh,1,none⟩=some (.slice (some ⟨ob,oo,none⟩) 32 oc)∧w'.cell? ⟨gh,2,none⟩=some (.slice (some ⟨nb,no,none⟩) 32 nc)∧w'.cell? ⟨gh,4,none⟩=some (.slice (some ⟨sb,so,none⟩) 32 sc)):=λw' hw'=>by obtain⟨_,p1,p2,_,p4,_⟩:=pZ.o.cells;have hh:=pZ.o.hm;have e:=hw'.block gh pZ.o.lt (λe=>hh (by cases e;rfl));exact⟨(World.cell?_of_block e).trans p1,(World.cell?_of_block e).trans p2,(World.cell?_of_block e).trans p4⟩
  clear fH wz EI hW cL yL uA On
  go_wp2_with fail
  refine ah (G:=bI gm) (by kernel_rfl) (bI.refl gm) (bI.trans gm) (by kernel_rfl) [(0,true),(1,true),(2,true),(3,true),(4,true),(5,true),(6,true),(7,true),(8,true),(9,false),(10,true)] rfl (by kernel_rfl) ?_;intro KK cA;rw[pd.o]
  iterate 9 (refine aa rfl (by rfl) (v:=?_) ?_ ?_;rotate_left;(intro w' hw';obtain⟨q1,q2,q3⟩:=Bp.o w' hw';clear hw';go_simp;with_reducible rfl);go_simp)
  refine aU (f:=33) (args:=#[.pointer (some ⟨gh,0,none⟩),.slice (some ⟨nb,no,none⟩) 32 nc,.slice (some ⟨sb,so,none⟩) 32 sc]) rfl (by rfl) (by go_simp) ?_;refine(mY gh gm (λy=>X y∨y=gh) m2 (some ⟨nb,no,none⟩) nc x.once (some ⟨sb,so,none⟩) sc x.S W pZ.o.cells.1 (FG.o W sG.o.size) pZ.o.mx pZ.o.on pZ.o.ss).mono ?_;rintro e w3 ⟨rfl,fP,vo⟩;refine⟨_,rfl,fP,?_⟩;obtain⟨m3,xx⟩:=aW (m2.key (eH x.once x.S));rw[xx] at vo;obtain⟨o1,xV⟩:=aW ((!decide (mK x.once x.S=0)));rw[xV];obtain⟨V,hV⟩:=aW (w3.drew);have Ah:Below w3.heap.size w3 V:=by rw[←hV];exact gl
  have BM:=ak ((pZ.o.turned m3 fP vo (λ_=>rfl)).later Ah);have LG:g1≠gm:=by omega
  have HEV:=ak ((gu L3.o fP (λy o f e=>by cases e;exact LG)).later Ah);have EJ:ae (eE gh gm w V):=(sG.o.trans (eE.right fP)).trans (eE.below Ah);have WV:=ak hV;have f8:=ak (And.intro nO (And.intro xx xV));have HCv:ae (∀w',bI gm V w'→w'.cell? ⟨gh,0,none⟩=some (.pointer (some ⟨gm,0,none⟩))∧w'.cell? ⟨gh,1,none⟩=some (.slice (some ⟨ob,oo,none⟩) 32 oc)):=λw' hw'=>by obtain⟨p0,p1,_⟩:=BM.o.cells;have hh:=BM.o.hm;have e:=hw'.block gh BM.o.lt (λe=>hh (by cases e;rfl));exact⟨(World.cell?_of_block e).trans p0,(World.cell?_of_block e).trans p1⟩
  clear fP vo hV Ah nO xx xV pZ L3 sG pd Bp;go_simp
  iterate 1 (refine aa rfl (by rfl) (v:=?_) ?_ ?_;rotate_left;(intro w' hw';clear hw';go_simp;with_reducible rfl);go_simp)
  refine az cA ?_;clear cA
  go_wp2_with fail
  refine ah (G:=bI gm) (by kernel_rfl) (bI.refl gm) (bI.trans gm) (by kernel_rfl) [(0,true),(1,true),(2,true),(3,true),(4,true),(5,true),(6,true),(7,true),(8,false),(9,false),(10,true),(11,true),(12,true),(13,true),(14,true)] rfl (by kernel_rfl) ?_;intro KK cA;rw[WV.o]
  iterate 8 (refine aa rfl (by rfl) (v:=?_) ?_ ?_;rotate_left;(intro w' hw';obtain⟨q1,q2⟩:=HCv.o w' hw';clear hw';go_simp;with_reducible rfl);go_simp)
  refine aU (f:=26) (args:=#[.slice (some ⟨ob,oo,none⟩) 32 oc]) rfl (by rfl) (by go_simp) ?_;refine(oL (some ⟨ob,oo,none⟩) oc x.own V BM.o.ow).mono ?_;rintro e w5 ⟨g5,rfl,hg5,iE,sP⟩;refine⟨_,rfl,bI.below gm iE,?_⟩;have Po:ae (bj w5 (some ⟨g5,0,none⟩) 32 (bN x.own)):=sP;have Km:=ak (BM.o.later iE);have Ch:=ak (HEV.o.later iE);have FH:ae (eE gh gm w w5):=EJ.o.trans (eE.below iE);have hVs:=EJ.o.size;clear iE sP BM HEV EJ WV HCv;go_simp
  obtain⟨c1,c2,c3,c4,c5,c6,c7,c8,c9,vO,tT⟩:=Km.o.mx;refine aU (f:=34) (args:=#[.pointer (some ⟨gm,0,none⟩),.slice (some ⟨g5,0,none⟩) 32 32]) rfl (by rfl) (by go_simp) ?_;refine(yI gm c1 c2 c3 c4 c5 c6 c7 c8 c9 m3.C m3.H m3.K m3.has m3.n (some ⟨g5,0,none⟩) 32 32 (bN x.own) w5 vO (λy=>X y∨y=gh) (FG.o w5 FH.o.size) tT (by rw[←f8.o.2.1];exact Nat.zero_le _) Po.o (λe=>by cases e) (by omega) (by omega) (by unfold maxLen;omega) (λ_ y o f e=>by have h1:=Km.o.mx.lt;have h2:=FH.o.size;cases e;omega)).mono ?_;rintro e w6 ⟨v6,rfl,hG6,T7,n6,qo⟩;refine⟨_,rfl,hG6,?_⟩;clear vO tT;obtain⟨er6,aiQ⟩:∃er,sw m3.has m3.n=er:=⟨_,rfl⟩;rw[aiQ];obtain⟨m4,H5⟩:=aW (m3.d9 (bN x.own));have aiR:x4 w6 gm (λy=>X y∨y=gh) m4:=by rw[←H5];exact T7
  obtain⟨s6,BQ⟩:=aW (m3.out (bN x.own));have aa1:w6.ownsRow w.heap.size 5 1 v6 n6 (s6.map bv):=by rw[←BQ];exact bQ qo FH.o.size
  have auR:gm<w.heap.size:=rP;obtain⟨Y,hY⟩:=aW (w6.drew);have E':Below w6.heap.size w6 Y:=by rw[←hY];exact gl
  have qf:=ak ((Km.o.turned m4 hG6 aiR (λ_=>rfl)).later E');have HEY:=ak ((gu Ch.o hG6 (λy o f e=>by cases e;exact LG)).later E');have wY:ae (eE gh gm w Y):=(FH.o.trans (eE.right hG6)).trans (eE.below E');have ED:=ak (cT aa1 (show w6.grownBy Y none from⟨E'.os,E'.tape,E'.output,E'.size,λk hk _=>E'.block k hk⟩) (λb' _ e=>by cases e));have yV:=ak hY;have DB:=ak (And.intro H5 BQ);have VV:ae (∀w',bI gm Y w'→w'.cell? ⟨gh,1,none⟩=some (.slice (some ⟨ob,oo,none⟩) 32 oc)∧w'.cell? ⟨gh,4,none⟩=some (.slice (some ⟨sb,so,none⟩) 32 sc)):=λw' hw'=>by obtain⟨_,p1,_,_,p4,_⟩:=qf.o.cells;have hh:=qf.o.hm;have e:=hw'.block gh qf.o.lt (λe=>hh (by cases e;rfl));exact⟨(World.cell?_of_block e).trans p1,(World.cell?_of_block e).trans p4⟩
  clear hG6 T7 aiR qo aa1 H5 BQ aiQ hY E' Km Ch FH Po;go_simp
  iterate 5 (refine aa rfl (by rfl) (v:=?_) ?_ ?_;rotate_left;(intro w' hw';clear hw';go_simp;with_reducible rfl);go_simp)
  refine az cA ?_;clear cA
  go_wp2_with fail
  refine ah (G:=bI gm) (by kernel_rfl) (bI.refl gm) (bI.trans gm) (by kernel_rfl) [(0,true),(1,true),(2,true),(3,true),(4,true),(5,true),(6,true),(7,true),(8,true),(9,false),(10,true)] rfl (by kernel_rfl) ?_;intro KK cA;rw[yV.o]
  iterate 9 (refine aa rfl (by rfl) (v:=?_) ?_ ?_;rotate_left;(intro w' hw';obtain⟨q1,q2⟩:=VV.o w' hw';clear hw';go_simp;with_reducible rfl);go_simp)
  refine aU (f:=33) (args:=#[.pointer (some ⟨gh,0,none⟩),.slice (some ⟨ob,oo,none⟩) 32 oc,.slice (some ⟨sb,so,none⟩) 32 sc]) rfl (by rfl) (by go_simp) ?_;refine(mY gh gm (λy=>X y∨y=gh) m4 (some ⟨ob,oo,none⟩) oc x.own (some ⟨sb,so,none⟩) sc x.S Y qf.o.cells.1 (FG.o Y wY.o.size) qf.o.mx qf.o.ow qf.o.ss).mono ?_;rintro e w7 ⟨rfl,Cz,Oo⟩;refine⟨_,rfl,Cz,?_⟩;obtain⟨m5,LU⟩:=aW (m4.key (eH x.own x.S));rw[LU] at Oo;obtain⟨o2,B6⟩:=aW ((!decide (mK x.own x.S=0)));rw[B6];have Cm:=ak (qf.o.turned m5 Cz Oo (λ_=>rfl));have OT:=ak (gu HEY.o Cz (λy o f e=>by cases e;exact LG));have sL:ae (eE gh gm w w7):=wY.o.trans (eE.right Cz);have Fq:=ak (cT ED.o Cz (λb' cU e=>by have:=(aad ED.o b' cU).1;cases e;omega));have tu:=ak (And.intro LU B6);clear Cz Oo LU B6 qf HEY wY ED yV VV;go_simp
  iterate 1 (refine aa rfl (by rfl) (v:=?_) ?_ ?_;rotate_left;(intro w' hw';clear hw';go_simp;with_reducible rfl);go_simp)
  refine az cA ?_;clear cA
  by_cases Jo:o1=true∧o2=true
  ·obtain⟨rfl,rfl⟩:=Jo;obtain⟨p0,_,_,_,_,_,_,_⟩:=Cm.o.cells
   go_wp2_with fail
   have hBb:=eE.nw HB.o sL.o SB.o;obtain⟨c1,c2,c3,c4,c5,c6,c7,c8,c9,vO,tT⟩:=Cm.o.mx;refine(yI gm c1 c2 c3 c4 c5 c6 c7 c8 c9 m5.C m5.H m5.K m5.has m5.n ba lb cb b w7 vO (λy=>X y∨y=gh) (FG.o w7 sL.o.size) tT (by rw[←tu.o.1];exact Nat.zero_le _) hBb kX (by omega) rf m7 (λh y o f e=>(SB.o h y o f e).2)).mono ?_;rintro e w8 ⟨v8,rfl,uU,VW,n8,wS⟩;clear vO tT p0;obtain⟨VX,AY⟩:∃er,sw m5.has m5.n=er:=⟨_,rfl⟩;rw[AY];obtain⟨m6,Jp⟩:=aW (m5.d9 b);have EK:x4 w8 gm (λy=>X y∨y=gh) m6:=by rw[←Jp];exact VW
   obtain⟨s8,jm⟩:=aW (m5.out b);have Se:s8.length≤lb+16:=by rw[←jm];have h1:=rH m5.K m5.has m5.n m5.H b;have h2:=hBb.1;unfold MS.out;omega
   have R4:s6.length≤48:=by rw[←DB.o.2];have h1:=rH m3.K m3.has m3.n m3.H (bN x.own);have h2:=eI x.own;unfold MS.out;omega
   have tK:w8.ownsRow w.heap.size 5 1 v8 n8 (s8.map bv):=by rw[←jm];exact bQ wS sL.o.size
   have hE8:=gu OT.o uU (λy o f e=>by cases e;exact LG);have F6:=cT Fq.o uU (λb' cU e=>by have:=(aad Fq.o b' cU).1;cases e;omega);have Ce:=Cm.o.turned m6 uU EK (λ_=>rfl);obtain⟨_,_,_,_,_,_,k6,f6⟩:=Ce.cells;have f6':=f6 6;have Cf:=Ce.setAt 1 (λ_=>rfl);have AZ:w8.grownBy (w8.setCell ⟨gh,6,none⟩ (.int .i64 ((1:Nat):Int))) (some gh):=bI.setCell w8 gh 6 _;have hE9:=gu hE8 AZ (λy o f e=>by cases e;omega);have hO9:=cT F6 AZ (λb' cU e=>by have:=(aad F6 b' cU).1;cases e;omega);have Oq:=cT tK AZ (λb' cU e=>by have:=(aad tK b' cU).1;cases e;omega);have A0:=(sL.o.trans (eE.right uU)).trans (eE.left AZ);obtain⟨W9,L6⟩:=aW (w8.setCell ⟨gh,6,none⟩ (.int .i64 ((1:Nat):Int)));rw[L6] at Cf hE9 hO9 Oq A0;have anK:w8.setCell ⟨gh,6,none⟩ (.int .i64 1)=W9:=L6;obtain⟨a6,d6,rfl,Qy,_,_,Qh⟩:=bq hO9;obtain⟨a8,d8,rfl,Bi,_,_,Tp⟩:=bq Oq;have iz:Below W9.heap.size W9 (W9.alloc (.cells #[] 5)):=eF;obtain⟨v1,x1,lj,cH,EL⟩:=bx (W9.alloc (.cells #[] 5)) W9.heap.size (.slice (some ⟨W9.heap.size,0,none⟩) 0 0) 0 [] (World.ownsRow_made W9 #[] 0 (di _) (Nat.zero_le _) rfl) (some ⟨g1,0,none⟩) 32 32 (bN x.once) (hE9.later iz) (λe=>by cases e) (by simp) (by omega);have jN:Below W9.heap.size W9 x1:=iz.grown EL (by simp) (λk hk=>by simp[Value.ownBlock] at hk;omega);rw[Nat.zero_add,List.nil_append] at cH;have hq6:=Qy.1;have U7:=Bi.1;obtain⟨v2,x2,nD,cZ,VY⟩:=bx x1 W9.heap.size v1 32 (bN x.once) cH a6 n6 d6 s6 (Qy.later jN) Qh jN.size (by omega);have lf:Below W9.heap.size W9 x2:=jN.grown VY jN.size (λk hk=>(cH.lt k hk).1);obtain⟨v3,x3,iu,dt,aiU⟩:=bx x2 W9.heap.size v2 (32+n6) (bN x.once++s6) cZ a8 n8 d8 s8 (Bi.later lf) Tp lf.size (by omega);have hX3:Below W9.heap.size W9 x3:=lf.grown aiU lf.size (λk hk=>(cZ.lt k hk).1);have Cd:=ak lj;have RK:=ak nD;have anM:=ak iu;have HO:=ak (bQ dt A0.size);have HGF:ae (eE gh gm w x3):=A0.trans (eE.below hX3);have HRF:=ak (Cf.later hX3);have Cx:=ak (And.intro Jp jm);clear hBb VW EK AY Jp jm Se R4 wS tK hE8 F6 Ce Cf uU AZ hE9 hO9 Oq A0 L6 Qy Bi Qh Tp iz lj nD iu cH cZ dt EL VY aiU jN lf hX3 hq6 U7 Cm OT Fq sL f6;have he:x.dv=0:=by unfold NS.dv;rw[if_pos HS.o,if_pos];have e1:=f8.o.2.2;have e2:=tu.o.2;unfold NS.ok;simp at e1 e2;exact⟨e1,e2⟩
   have h3:x.f1=m3:=by rw[←f8.o.2.1,←f8.o.1];rfl
   have h5:x.f2=m5:=by rw[←tu.o.1,←DB.o.1,←h3];rfl
   have hf:x.first b=⟨m6,x.own,x.once,x.R,x.S,x.bP,1⟩:=by unfold NS.first;rw[if_pos he,h5,Cx.o.1]
   have ho:x.dV b=bN x.once++s6++s8:=by unfold NS.dV;rw[h3,h5,DB.o.2,Cx.o.2]
   have HF:=ak (And.intro he (And.intro hf ho));clear he hf ho h3 h5
   go_wp2_with (at_builtin;first|refine ao rfl (.tmp 95) (.tmp 96) 22 rfl _ _ _ _ rfl rfl Cd.o ?_|refine ao rfl (.tmp 97) (.tmp 98) 22 rfl _ _ _ _ rfl rfl RK.o ?_|refine ao rfl (.tmp 99) (.tmp 100) 22 rfl _ _ _ _ rfl rfl anM.o ?_)
   all_goals
    first
     |exact absurd HF.o.1 (by assumption)
     |(rw[HF.o.2.1,HF.o.2.2];go_ret2;exact⟨_,rfl,HGF.o,⟨_,_,_,_,_,_,_,_,_,_,_,_,_,HRF.o⟩,_,HO.o⟩)
  ·have he:x.dv=4:=by unfold NS.dv;rw[if_pos HS.o,if_neg];rintro⟨h1,h2⟩;apply Jo;rw[←f8.o.2.2,←tu.o.2];unfold NS.ok at h1 h2;simp[h1,h2]
   have hf:x.first b=x.gI:=by unfold NS.first;rw[he];rfl
   have A4:=ak (And.intro he hf);have C4:o1=false∨(o1=true∧o2=false):=by cases o1<;>cases o2<;>simp at Jo⊢
   clear he hf Jo
   rcases C4 with rfl|⟨rfl,rfl⟩
   all_goals
    go_wp2_with fail
    refine(cV gh gm X _ m5 ob oo oc nb no nc ra rl rc sb so sc 4 w7 Cm.o).mono ?_;rintro e w8 ⟨rfl,uU,Ce⟩;have Mz:=ak (sL.o.trans (eE.left uU));have iK:=ak Ce;clear uU Ce
    go_wp2_with fail
    all_goals
     first
      |exact absurd (A4.o.1.symm.trans (by assumption):(4:Nat)=0) (by decide)
      |((try rw[A4.o.1]);(try rw[A4.o.2]);go_ret2;exact⟨_,rfl,Mz.o,⟨_,_,_,_,_,_,_,_,_,_,_,_,_,⟨iK.o.row,iK.o.ow,iK.o.on,iK.o.rr,iK.o.ss,iK.o.mx,λh=>absurd rfl h,iK.o.hm,iK.o.ng,iK.o.rg,iK.o.nx⟩⟩,0,⟨rfl,.inl ⟨rfl,rfl⟩⟩⟩)
 ·have he:x.dv=10:=by unfold NS.dv;rw[if_neg hs]
  have hf:x.first b=x.gI:=by unfold NS.first;rw[he];rfl
  rw[he,hf];clear he hf
  by_cases h1:x.bP=true
  ·have h2:¬x.st=0:=λh=>hs ⟨h1,h⟩;have Qu:¬(x.st:Int)=0:=by omega
   rw[h1] at q5;clear hs
   go_enter func11,ntmps11
   go_wp2_with fail
   refine(cV gh gm X x m ob oo oc nb no nc ra rl rc sb so sc 10 w HR.o).mono ?_;rintro e w1 ⟨rfl,oI,oF⟩;have mL:=ak oI;have uA:=ak oF;clear oI oF
   go_wp2_with fail
   go_ret2
   exact⟨_,rfl,eE.left mL.o,⟨_,_,_,_,_,_,_,_,_,_,_,_,_,uA.o⟩,0,⟨rfl,.inl ⟨rfl,rfl⟩⟩⟩
  ·have LR:x.bP=false:=by simpa using h1
   rw[LR] at q5;clear hs h1
   go_enter func11,ntmps11
   go_wp2_with fail
   refine(cV gh gm X x m ob oo oc nb no nc ra rl rc sb so sc 10 w HR.o).mono ?_;rintro e w1 ⟨rfl,oI,oF⟩;have mL:=ak oI;have uA:=ak oF;clear oI oF
   go_wp2_with fail
   go_ret2
   exact⟨_,rfl,eE.left mL.o,⟨_,_,_,_,_,_,_,_,_,_,_,_,_,uA.o⟩,0,⟨rfl,.inl ⟨rfl,rfl⟩⟩⟩
theorem EM (gh gm:Nat)(X:Nat→Prop)(x:NS)(m:MS)(ob oo oc nb no nc:Nat)(ra:bW)(rl rc sb so sc:Nat)(ba:bW)(lb cb:Nat)(b:aO)(w:aw)(hR:RN w gh gm X x m ob oo oc nb no nc ra rl rc sb so sc)(hr:x.bP=false→x.st=1→x.R.length=32)(hX:∀y,X y→y<w.heap.size)
  (hB:bj w ba lb b) (kX:ba=none→cb=0) (FN:lb≤800) (rf:lb≤cb) (m7:cb≤maxLen) (pW:0<lb→∀y o f,ba=some ⟨y,o,f⟩→y≠gh∧y≠gm):
  Calls prog 15 #[.pointer (some ⟨gh,0,none⟩),.slice ba lb cb] w λe w'=>∃v,e= .returned (.tuple #[v,.int .i64 ((x.dn:Nat):Int)])∧eE gh gm w w'∧RNx w' gh gm X (x.second b)∧∃q,w'.ownsRow w.heap.size 5 1 v q ((if x.dn=0 then x.dm b else[]).map bv):=by
 have oa:=hR.lt;have rP:=hR.mx.lt;obtain⟨q0,q1,q2,q3,q4,q5,q6,_⟩:=hR.cells;have HR:=ak hR;have HX:=ak hX;have HB:=ak hB;have SB:=ak pW;clear hR hX hB pW
 by_cases hs:x.bP=false∧x.st=1
 ·obtain⟨jF,iJ⟩:=hs;have hrl:rl=32:=by have h1:=HR.o.rr.1;have h2:=hr jF iJ;omega
  subst hrl;have HS:=ak (And.intro jF iJ);rw[jF] at q5;rw[iJ] at q6;clear jF iJ hr
  go_enter func15,ntmps15
  go_wp2_with fail
  have FG:ae (∀W:aw,w.heap.size≤W.heap.size→∀y,(X y∨y=gh)→y<W.heap.size):=λW hW y h=>tV (h.elim (λh=>HX.o y h) (λh=>by rw[h];exact oa)) hW;have Hw:m=x.M:=HR.o.mm (by have:=HS.o.2;omega);subst Hw;refine(oL (some ⟨nb,no,none⟩) nc x.once w HR.o.on).mono ?_;rintro e w1 ⟨g1,rfl,uB,ck,pz⟩;have yL:ae (bj w1 (some ⟨g1,0,none⟩) 32 (bN x.once)):=pz;have uA:=ak (HR.o.later ck);have On:ae (eE gh gm w w1):=eE.below ck;obtain⟨p0,_⟩:=uA.o.cells;clear ck pz q0 q1 q2 q3 q4 q5 q6
  go_wp2_with fail
  obtain⟨c1,c2,c3,c4,c5,c6,c7,c8,c9,vO,tT⟩:=uA.o.mx;refine(gZ gm c1 c2 c3 c4 c5 c6 c7 c8 c9 x.M.C x.M.H x.M.K x.M.has x.M.n (some ⟨g1,0,none⟩) 32 32 (bN x.once) w1 vO (λy=>X y∨y=gh) (FG.o w1 On.o.size) tT yL.o (λe=>by cases e) (by omega)).mono ?_;rintro e w2 ⟨⟨v2,rfl⟩,fH,wz⟩;clear vO tT p0;obtain⟨m2,nO⟩:=aW (x.M.hash (bN x.once));have EI:x4 w2 gm (λy=>X y∨y=gh) m2:=by rw[←nO];exact wz
  obtain⟨W,hW⟩:=aW (w2.drew);have cL:Below w2.heap.size w2 W:=by rw[←hW];exact gl
  have pZ:=ak ((uA.o.turned m2 fH EI (λ_=>rfl)).later cL);have L3:=ak ((gu yL.o fH (λy o f e=>by cases e;omega)).later cL);have sG:ae (eE gh gm w W):=(On.o.trans (eE.right fH)).trans (eE.below cL);have pd:=ak hW;have Bp:ae (∀w',bI gm W w'→w'.cell? ⟨gh,2,none⟩=some (.slice (some ⟨nb,no,none⟩) 32 nc)∧w'.cell? ⟨gh,3,none⟩=some (.slice ra 32 rc)):=λw' hw'=>by obtain⟨_,_,p2,p3,_⟩:=pZ.o.cells;have hh:=pZ.o.hm;have e:=hw'.block gh pZ.o.lt (λe=>hh (by cases e;rfl));exact⟨(World.cell?_of_block e).trans p2,(World.cell?_of_block e).trans p3⟩
  clear fH wz EI hW cL yL uA On
  go_wp2_with fail
  refine ah (G:=bI gm) (by kernel_rfl) (bI.refl gm) (bI.trans gm) (by kernel_rfl) [(0,true),(1,true),(2,true),(3,true),(4,true),(5,true),(6,true),(7,true),(8,true),(9,false),(10,true)] rfl (by kernel_rfl) ?_;intro KK cA;rw[pd.o]
  iterate 9 (refine aa rfl (by rfl) (v:=?_) ?_ ?_;rotate_left;(intro w' hw';obtain⟨q1,q2⟩:=Bp.o w' hw';clear hw';go_simp;with_reducible rfl);go_simp)
  refine aU (f:=33) (args:=#[.pointer (some ⟨gh,0,none⟩),.slice (some ⟨nb,no,none⟩) 32 nc,.slice ra 32 rc]) rfl (by rfl) (by go_simp) ?_;refine(mY gh gm (λy=>X y∨y=gh) m2 (some ⟨nb,no,none⟩) nc x.once ra rc x.R W pZ.o.cells.1 (FG.o W sG.o.size) pZ.o.mx pZ.o.on pZ.o.rr).mono ?_;rintro e w3 ⟨rfl,fP,vo⟩;refine⟨_,rfl,fP,?_⟩;obtain⟨m3,xx⟩:=aW (m2.key (eH x.once x.R));rw[xx] at vo;obtain⟨o1,xV⟩:=aW ((!decide (mK x.once x.R=0)));rw[xV];obtain⟨Y,hY⟩:=aW (w3.drew);have E':Below w3.heap.size w3 Y:=by rw[←hY];exact gl
  have qf:=ak ((pZ.o.turned m3 fP vo (λ_=>rfl)).later E');have LG:g1≠gm:=by omega
  have HEY:=ak ((gu L3.o fP (λy o f e=>by cases e;exact LG)).later E');have wY:ae (eE gh gm w Y):=(sG.o.trans (eE.right fP)).trans (eE.below E');have yV:=ak hY;have f8:=ak (And.intro nO (And.intro xx xV));have VV:ae (∀w',bI gm Y w'→w'.cell? ⟨gh,2,none⟩=some (.slice (some ⟨nb,no,none⟩) 32 nc)∧w'.cell? ⟨gh,4,none⟩=some (.slice (some ⟨sb,so,none⟩) 32 sc)):=λw' hw'=>by obtain⟨_,_,p2,_,p4,_⟩:=qf.o.cells;have hh:=qf.o.hm;have e:=hw'.block gh qf.o.lt (λe=>hh (by cases e;rfl));exact⟨(World.cell?_of_block e).trans p2,(World.cell?_of_block e).trans p4⟩
  clear fP vo hY E' nO xx xV pZ L3 sG pd Bp;go_simp
  iterate 1 (refine aa rfl (by rfl) (v:=?_) ?_ ?_;rotate_left;(intro w' hw';clear hw';go_simp;with_reducible rfl);go_simp)
  refine az cA ?_;clear cA
  go_wp2_with fail
  refine ah (G:=bI gm) (by kernel_rfl) (bI.refl gm) (bI.trans gm) (by kernel_rfl) [(0,true),(1,true),(2,true),(3,true),(4,true),(5,true),(6,true),(7,true),(8,true),(9,false),(10,true)] rfl (by kernel_rfl) ?_;intro KK cA;rw[yV.o]
  iterate 9 (refine aa rfl (by rfl) (v:=?_) ?_ ?_;rotate_left;(intro w' hw';obtain⟨q1,q2⟩:=VV.o w' hw';clear hw';go_simp;with_reducible rfl);go_simp)
  refine aU (f:=33) (args:=#[.pointer (some ⟨gh,0,none⟩),.slice (some ⟨nb,no,none⟩) 32 nc,.slice (some ⟨sb,so,none⟩) 32 sc]) rfl (by rfl) (by go_simp) ?_;refine(mY gh gm (λy=>X y∨y=gh) m3 (some ⟨nb,no,none⟩) nc x.once (some ⟨sb,so,none⟩) sc x.S Y qf.o.cells.1 (FG.o Y wY.o.size) qf.o.mx qf.o.on qf.o.ss).mono ?_;rintro e w7 ⟨rfl,Cz,Oo⟩;refine⟨_,rfl,Cz,?_⟩;obtain⟨m5,LU⟩:=aW (m3.key (eH x.once x.S));rw[LU] at Oo;obtain⟨o2,B6⟩:=aW ((!decide (mK x.once x.S=0)));rw[B6];have Cm:=ak (qf.o.turned m5 Cz Oo (λ_=>rfl));have OT:=ak (gu HEY.o Cz (λy o f e=>by cases e;exact LG));have sL:ae (eE gh gm w w7):=wY.o.trans (eE.right Cz);have tu:=ak (And.intro LU B6);clear Cz Oo LU B6 qf HEY wY yV VV;go_simp
  iterate 1 (refine aa rfl (by rfl) (v:=?_) ?_ ?_;rotate_left;(intro w' hw';clear hw';go_simp;with_reducible rfl);go_simp)
  refine az cA ?_;clear cA
  by_cases Jo:o1=true∧o2=true
  ·obtain⟨rfl,rfl⟩:=Jo;obtain⟨p0,_,_,_,_,_,_,_⟩:=Cm.o.cells
   go_wp2_with fail
   have hBb:=eE.nw HB.o sL.o SB.o;obtain⟨c1,c2,c3,c4,c5,c6,c7,c8,c9,vO,tT⟩:=Cm.o.mx;refine(yI gm c1 c2 c3 c4 c5 c6 c7 c8 c9 m5.C m5.H m5.K m5.has m5.n ba lb cb b w7 vO (λy=>X y∨y=gh) (FG.o w7 sL.o.size) tT (by rw[←tu.o.1];exact Nat.zero_le _) hBb kX (by omega) rf m7 (λh y o f e=>(SB.o h y o f e).2)).mono ?_;rintro e w8 ⟨v8,rfl,uU,VW,n8,wS⟩;clear vO tT p0;obtain⟨VX,AY⟩:∃er,sw m5.has m5.n=er:=⟨_,rfl⟩;rw[AY];obtain⟨m6,Jp⟩:=aW (m5.d9 b);have EK:x4 w8 gm (λy=>X y∨y=gh) m6:=by rw[←Jp];exact VW
   obtain⟨s8,jm⟩:=aW (m5.out b);have Se:s8.length≤lb+16:=by rw[←jm];have h1:=rH m5.K m5.has m5.n m5.H b;have h2:=hBb.1;unfold MS.out;omega
   have tK:w8.ownsRow w.heap.size 5 1 v8 n8 (s8.map bv):=by rw[←jm];exact bQ wS sL.o.size
   have hE8:=gu OT.o uU (λy o f e=>by cases e;exact LG);have Ce:=Cm.o.turned m6 uU EK (λ_=>rfl);obtain⟨_,_,_,_,_,_,k6,f6⟩:=Ce.cells;have f6':=f6 6;have Cf:=Ce.setAt 2 (λ_=>rfl);have AZ:w8.grownBy (w8.setCell ⟨gh,6,none⟩ (.int .i64 ((2:Nat):Int))) (some gh):=bI.setCell w8 gh 6 _;have hE9:=gu hE8 AZ (λy o f e=>by cases e;omega);have Oq:=cT tK AZ (λb' cU e=>by have:=(aad tK b' cU).1;cases e;omega);have A0:=(sL.o.trans (eE.right uU)).trans (eE.left AZ);obtain⟨W9,L6⟩:=aW (w8.setCell ⟨gh,6,none⟩ (.int .i64 ((2:Nat):Int)));rw[L6] at Cf hE9 Oq A0;have anK:w8.setCell ⟨gh,6,none⟩ (.int .i64 2)=W9:=L6;obtain⟨a8,d8,rfl,Bi,_,_,Tp⟩:=bq Oq;have iz:Below W9.heap.size W9 (W9.alloc (.cells #[] 5)):=eF;obtain⟨v1,x1,lj,cH,EL⟩:=bx (W9.alloc (.cells #[] 5)) W9.heap.size (.slice (some ⟨W9.heap.size,0,none⟩) 0 0) 0 [] (World.ownsRow_made W9 #[] 0 (di _) (Nat.zero_le _) rfl) (some ⟨g1,0,none⟩) 32 32 (bN x.once) (hE9.later iz) (λe=>by cases e) (by simp) (by omega);have jN:Below W9.heap.size W9 x1:=iz.grown EL (by simp) (λk hk=>by simp[Value.ownBlock] at hk;omega);rw[Nat.zero_add,List.nil_append] at cH;have U7:=Bi.1;obtain⟨v2,x2,nD,cZ,VY⟩:=bx x1 W9.heap.size v1 32 (bN x.once) cH a8 n8 d8 s8 (Bi.later jN) Tp jN.size (by omega);have lf:Below W9.heap.size W9 x2:=jN.grown VY jN.size (λk hk=>(cH.lt k hk).1);have Cd:=ak lj;have RK:=ak nD;have HO:=ak (bQ cZ A0.size);have HGF:ae (eE gh gm w x2):=A0.trans (eE.below lf);have HRF:=ak (Cf.later lf);have Cx:=ak (And.intro Jp jm);clear hBb VW EK AY Jp jm Se wS tK hE8 Ce Cf uU AZ hE9 Oq A0 L6 Bi Tp iz lj nD cH cZ EL VY jN lf U7 Cm OT sL f6;have he:x.dn=0:=by unfold NS.dn;rw[if_pos HS.o,if_pos];have e1:=f8.o.2.2;have e2:=tu.o.2;unfold NS.ok;simp at e1 e2;exact⟨e1,e2⟩
   have h5:x.s1=m5:=by rw[←tu.o.1,←f8.o.2.1,←f8.o.1];rfl
   have hf:x.second b=⟨m6,x.own,x.once,x.R,x.S,x.bP,2⟩:=by unfold NS.second;rw[if_pos he,h5,Cx.o.1]
   have ho:x.dm b=bN x.once++s8:=by unfold NS.dm;rw[h5,Cx.o.2]
   have HF:=ak (And.intro he (And.intro hf ho));clear he hf ho h5
   go_wp2_with (at_builtin;first|refine ao rfl (.tmp 79) (.tmp 80) 22 rfl _ _ _ _ rfl rfl Cd.o ?_|refine ao rfl (.tmp 81) (.tmp 82) 22 rfl _ _ _ _ rfl rfl RK.o ?_)
   all_goals
    first
     |exact absurd HF.o.1 (by assumption)
     |(rw[HF.o.2.1,HF.o.2.2];go_ret2;exact⟨_,rfl,HGF.o,⟨_,_,_,_,_,_,_,_,_,_,_,_,_,HRF.o⟩,_,HO.o⟩)
  ·have he:x.dn=4:=by unfold NS.dn;rw[if_pos HS.o,if_neg];rintro⟨h1,h2⟩;apply Jo;rw[←f8.o.2.2,←tu.o.2];unfold NS.ok at h1 h2;simp[h1,h2]
   have hf:x.second b=x.gI:=by unfold NS.second;rw[he];rfl
   have A4:=ak (And.intro he hf);have C4:o1=false∨(o1=true∧o2=false):=by cases o1<;>cases o2<;>simp at Jo⊢
   clear he hf Jo
   rcases C4 with rfl|⟨rfl,rfl⟩
   all_goals
    go_wp2_with fail
    refine(cV gh gm X _ m5 ob oo oc nb no nc ra 32 rc sb so sc 4 w7 Cm.o).mono ?_;rintro e w8 ⟨rfl,uU,Ce⟩;have Mz:=ak (sL.o.trans (eE.left uU));have iK:=ak Ce;clear uU Ce
    go_wp2_with fail
    all_goals
     first
      |exact absurd (A4.o.1.symm.trans (by assumption):(4:Nat)=0) (by decide)
      |((try rw[A4.o.1]);(try rw[A4.o.2]);go_ret2;exact⟨_,rfl,Mz.o,⟨_,_,_,_,_,_,_,_,_,_,_,_,_,⟨iK.o.row,iK.o.ow,iK.o.on,iK.o.rr,iK.o.ss,iK.o.mx,λh=>absurd rfl h,iK.o.hm,iK.o.ng,iK.o.rg,iK.o.nx⟩⟩,0,⟨rfl,.inl ⟨rfl,rfl⟩⟩⟩)
 ·have he:x.dn=10:=by unfold NS.dn;rw[if_neg hs]
  have hf:x.second b=x.gI:=by unfold NS.second;rw[he];rfl
  rw[he,hf];clear he hf hr
  by_cases h1:x.bP=false
  ·have h2:¬x.st=1:=λh=>hs ⟨h1,h⟩;have Qu:¬(x.st:Int)=1:=by omega
   rw[h1] at q5;clear hs
   go_enter func15,ntmps15
   go_wp2_with fail
   refine(cV gh gm X x m ob oo oc nb no nc ra rl rc sb so sc 10 w HR.o).mono ?_;rintro e w1 ⟨rfl,oI,oF⟩;have mL:=ak oI;have uA:=ak oF;clear oI oF
   go_wp2_with fail
   go_ret2
   exact⟨_,rfl,eE.left mL.o,⟨_,_,_,_,_,_,_,_,_,_,_,_,_,uA.o⟩,0,⟨rfl,.inl ⟨rfl,rfl⟩⟩⟩
  ·have LR:x.bP=true:=by simpa using h1
   rw[LR] at q5;clear hs h1
   go_enter func15,ntmps15
   go_wp2_with fail
   refine(cV gh gm X x m ob oo oc nb no nc ra rl rc sb so sc 10 w HR.o).mono ?_;rintro e w1 ⟨rfl,oI,oF⟩;have mL:=ak oI;have uA:=ak oF;clear oI oF
   go_wp2_with fail
   go_ret2
   exact⟨_,rfl,eE.left mL.o,⟨_,_,_,_,_,_,_,_,_,_,_,_,_,uA.o⟩,0,⟨rfl,.inl ⟨rfl,rfl⟩⟩⟩
section
variable {w w':aw} {gh gm:Nat} {X:Nat→Prop} {x:NS} {m:MS} {ob oo oc nb no nc:Nat} {ra:bW} {rl rc sb so sc:Nat}
theorem RN.RP (h:RN w gh gm X x m ob oo oc nb no nc ra rl rc sb so sc)(b:Bool):RN (w.setCell ⟨gh,5,none⟩ (.bool b)) gh gm X ⟨x.M,x.own,x.once,x.R,x.S,b,x.st⟩ m ob oo oc nb no nc ra rl rc sb so sc:=by have hG:w.grownBy (w.setCell ⟨gh,5,none⟩ (.bool b)) (some gh):=bI.setCell w gh 5 _;refine⟨by have:=kr h.row 5 (.bool b);exact this,h.ow.but hG h.ng.1.1,h.on.but hG h.ng.1.2.1,oX h.rr hG (λhp y o f e=>(h.rg hp y o f e).1),h.ss.but hG h.ng.1.2.2,h.mx.but hG (.inr rfl) (λe=>h.hm e.symm),h.mm,h.hm,h.ng,h.rg,h.nx⟩
theorem RN.aiV (h:RN w gh gm X x m ob oo oc nb no nc ra rl rc sb so sc)(sb' so' sc':Nat)(S:aO)(hS:bj w (some ⟨sb',so',none⟩) 32 S)(eL:sb'≠gh∧sb'≠gm∧¬X sb'):RN (w.setCell ⟨gh,4,none⟩ (.slice (some ⟨sb',so',none⟩) 32 sc')) gh gm X ⟨x.M,x.own,x.once,x.R,S,x.bP,x.st⟩ m ob oo oc nb no nc ra rl rc sb' so' sc':=by have hG:w.grownBy (w.setCell ⟨gh,4,none⟩ (.slice (some ⟨sb',so',none⟩) 32 sc')) (some gh):=bI.setCell w gh 4 _;refine⟨by have:=kr h.row 4 (.slice (some ⟨sb',so',none⟩) 32 sc');exact this,h.ow.but hG h.ng.1.1,h.on.but hG h.ng.1.2.1,oX h.rr hG (λhp y o f e=>(h.rg hp y o f e).1),hS.but hG eL.1,h.mx.but hG (.inr rfl) (λe=>h.hm e.symm),h.mm,h.hm,⟨⟨h.ng.1.1,h.ng.1.2.1,eL.1⟩,h.ng.2.1,h.ng.2.2.1,eL.2.1⟩,h.rg,⟨h.nx.1,h.nx.2.1,eL.2.2⟩⟩
theorem RN.aiX (h:RN w gh gm X x m ob oo oc nb no nc ra rl rc sb so sc)(ra':bW)(rl' rc':Nat)(R:aO)(hR:bj w ra' rl' R)(hg:0<rl'→∀y o f,ra'=some ⟨y,o,f⟩→y≠gh∧y≠gm∧¬X y):RN (w.setCell ⟨gh,3,none⟩ (.slice ra' rl' rc')) gh gm X ⟨x.M,x.own,x.once,R,x.S,x.bP,x.st⟩ m ob oo oc nb no nc ra' rl' rc' sb so sc:=by have hG:w.grownBy (w.setCell ⟨gh,3,none⟩ (.slice ra' rl' rc')) (some gh):=bI.setCell w gh 3 _;refine⟨by have:=kr h.row 3 (.slice ra' rl' rc');exact this,h.ow.but hG h.ng.1.1,h.on.but hG h.ng.1.2.1,oX hR hG (λhp y o f e=>(hg hp y o f e).1),h.ss.but hG h.ng.1.2.2,h.mx.but hG (.inr rfl) (λe=>h.hm e.symm),h.mm,h.hm,h.ng,hg,h.nx⟩
end
theorem EN (X:Nat→Prop)(pa:bW)(pl pc:Nat)(gj:aO)(ob oo oc:Nat)(own:aO)(nb no nc:Nat)(once:aO)(w:aw)(hX:∀x,X x→x<w.heap.size)(nX:¬X ob∧¬X nb)
  (hP:bj w pa pl gj) (LQ:pa=none→pc=0) (tN:pl≤1000) (hO:bj w (some ⟨ob,oo,none⟩) 32 own) (hN:bj w (some ⟨nb,no,none⟩) 32 once):
  Calls prog 9 #[.slice pa pl pc,.slice (some ⟨ob,oo,none⟩) 32 oc,.slice (some ⟨nb,no,none⟩) 32 nc] w λe w'=>∃gh gm sb,e= .returned (.pointer (some ⟨gh,0,none⟩))∧w.heap.size≤gh∧w.heap.size≤gm∧Below w.heap.size w w'∧
   RN w' gh gm X (NS.answer aZ gj own once) (NS.answer aZ gj own once).M ob oo oc nb no nc none 0 0 sb 0 32:=by
 have HP:=ak hP;have HO:=ak hO;have HN:=ak hN;have HX:=ak hX;clear hP hO hN hX
 go_enter func9,ntmps9
 go_wp2_with fail
 refine(oL (some ⟨ob,oo,none⟩) oc own w HO.o).mono ?_;rintro e w1 ⟨g1,rfl,uB,ck,pz⟩;have iG:ae (bj w1 (some ⟨g1,0,none⟩) 32 (bN own)):=pz;have fU:=ak ck;have nX1:¬X g1:=λh=>by have:=HX.o g1 h;omega
 clear ck pz
 go_wp2_with fail
 refine(x5 X pa pl pc gj ob oo oc own g1 0 32 (bN own) nb no nc once w1 (λx h=>tV (HX.o x h) fU.o.size) ⟨nX.1,nX.2,nX1⟩ (HP.o.later fU.o) LQ tN (HO.o.later fU.o) iG.o (HN.o.later fU.o)).mono ?_;rintro e w2 ⟨gh,gm,rfl,hgh,XK,cM,F0⟩;have fw:=ak (fU.o.trans (cM.mono fU.o.size));have aef:w.heap.size≤gh:=kx fU.o.size hgh;have anP:w.heap.size≤gm:=kx fU.o.size XK;obtain⟨_,_,_,_,_,q5,_,f⟩:=F0.cells;have f5:=f 5;have VN:=F0.RP false;have eZ:=dI fw.o (bI.setCell w2 gh 5 (.bool false)) aef;obtain⟨W3,nV⟩:=aW (w2.setCell ⟨gh,5,none⟩ (.bool false));rw[nV] at VN eZ;have Lq:=ak VN;have pI:=ak eZ;clear F0 VN eZ cM iG fU f uB nX1
 go_wp2_with fail
 have vD:(Instr.makeSlice 22 (.int .i64 32) (.int .i64 32)).run prog W3= .ok (.slice (some ⟨W3.heap.size,0,none⟩) 32 32) (W3.alloc (.cells ((cz 32 (0:UInt8)).map bv).toArray 5)):=tv W3 32 (by omega);have iz:Below W3.heap.size W3 (W3.alloc (.cells ((cz 32 (0:UInt8)).map bv).toArray 5)):=eF;have hz:=(dz.new W3 5 (cz 32 0)).nw 32 rfl;obtain⟨W4,fj⟩:=aW (W3.alloc (.cells ((cz 32 (0:UInt8)).map bv).toArray 5));rw[fj] at vD iz hz;have hR4:=Lq.o.later iz;obtain⟨_,_,_,_,q4,_,_,f⟩:=hR4.cells;have f4:=f 4;have oa:=Lq.o.lt;have rP:=Lq.o.mx.lt;have G0:¬X W3.heap.size:=λh=>by have h1:=HX.o _ h;have h2:=pI.o.size;omega
 have hR5:=hR4.aiV W3.heap.size 0 32 (cz 32 0) hz ⟨by omega,by omega,G0⟩;have iE:=dI (pI.o.trans (iz.mono pI.o.size)) (bI.setCell W4 gh 4 (.slice (some ⟨W3.heap.size,0,none⟩) 32 32)) aef;have Km:=ak hR5;have wh:=ak iE;clear nV fj iz hz hR4 hR5 iE f q5 f5 Lq fw pI
 go_wp2_with fail
 go_ret
 exact⟨gh,gm,W3.heap.size,rfl,aef,anP,wh.o,Km.o⟩
def Am (w:aw)(gh gm:Nat)(X:Nat→Prop)(x:NS):Prop:=∃R,(x.st≠9→R=x.R)∧RNx w gh gm X ⟨x.M,x.own,x.once,R,x.S,x.bP,x.st⟩
theorem IG (gh gm:Nat)(X:Nat→Prop)(x:NS)(m:MS)(ob oo oc nb no nc:Nat)(ra:bW)(rl rc sb so sc:Nat)(ba:bW)(lb cb:Nat)(b:aO)(w:aw)(hR:RN w gh gm X x m ob oo oc nb no nc ra rl rc sb so sc)(hX:∀y,X y→y<w.heap.size)
  (hB:bj w ba lb b) (kX:ba=none→cb=0) (FN:lb≤800) (rf:lb≤cb) (m7:cb≤maxLen) (pW:0<lb→∀y o f,ba=some ⟨y,o,f⟩→y≠gh∧y≠gm):
  Calls prog 17 #[.pointer (some ⟨gh,0,none⟩),.slice ba lb cb] w λe w'=>∃v,e= .returned (.tuple #[v,.int .i64 ((x.eJ b:Nat):Int)])∧eE gh gm w w'∧Am w' gh gm X (x.done b)∧∃q,w'.ownsRow w.heap.size 5 1 v q ((if x.eJ b=0 then x.jo b else[]).map bv):=by
 have oa:=hR.lt;have rP:=hR.mx.lt;have kW:=hB.1;obtain⟨q0,q1,q2,q3,q4,q5,q6,_⟩:=hR.cells;have HR:=ak hR;have HX:=ak hX;have HB:=ak hB;have SB:=ak pW;clear hR hX hB pW
 by_cases hs:x.bP=true∧x.st=1
 ·obtain⟨jF,iJ⟩:=hs;have HS:=ak (And.intro jF iJ);have DO:x.st≠9:=by omega
  rw[jF] at q5;rw[iJ] at q6;clear jF iJ
  by_cases auV:lb<48
  ·have he:x.eJ b=2:=by unfold NS.eJ;rw[if_pos HS.o,if_pos (by omega)]
   have hf:x.done b=x.gI:=by unfold NS.done;rw[he];rfl
   rw[he,hf];clear he hf;have i1:(lb:Int)<48:=by omega
   go_enter func17,ntmps17
   go_wp2_with fail
   refine(cV gh gm X x m ob oo oc nb no nc ra rl rc sb so sc 2 w HR.o).mono ?_;rintro e w1 ⟨rfl,oI,oF⟩;have mL:=ak oI;have uA:=ak oF;clear oI oF
   go_wp2_with fail
   go_ret2
   exact⟨_,rfl,eE.left mL.o,⟨_,λh=>absurd rfl h,_,_,_,_,_,_,_,_,_,_,_,_,_,uA.o⟩,0,⟨rfl,.inl ⟨rfl,rfl⟩⟩⟩
  have i1:¬(lb:Int)<48:=by omega
  obtain⟨bb,bo,rfl,_⟩:=HB.o.at_ 0 (by omega);have i2:(32:Int)≤(cb:Int):=by omega
  have i3:(lb:Int)≤(cb:Int):=by omega
  have i4:(32:Int)≤(lb:Int):=by omega
  have i5:¬cb=32:=by omega
  have ab9:cb≤9223372036854775807:=by unfold maxLen at m7;exact m7
  have HBn:ae (bb≠gh∧bb≠gm):=SB.o (by omega) bb bo none rfl;have FG:ae (∀W:aw,w.heap.size≤W.heap.size→∀y,(X y∨y=gh)→y<W.heap.size):=λW hW y h=>tV (h.elim (λh=>HX.o y h) (λh=>by rw[h];exact oa)) hW;have Hw:m=x.M:=HR.o.mm DO;subst Hw;have iz:Below w.heap.size w (w.alloc (.cells #[] 5)):=eF;obtain⟨v1,x1,lj,cH,EL⟩:=bx (w.alloc (.cells #[] 5)) w.heap.size (.slice (some ⟨w.heap.size,0,none⟩) 0 0) 0 [] (World.ownsRow_made w #[] 0 (di _) (Nat.zero_le _) rfl) (some ⟨bb,bo,none⟩) 32 cb (b.take 32) ((HB.o.cut (by omega)).later iz) (λe=>by cases e) (by simp) (by omega);have jN:Below w.heap.size w x1:=iz.grown EL (by simp) (λk hk=>by simp[Value.ownBlock] at hk;omega);rw[Nat.zero_add,List.nil_append] at cH;obtain⟨vb,vc,rfl,Sn,_⟩:=gO cH (by omega);obtain⟨_,_,e1,pz,gi,sC,_⟩:=bq cH;cases e1
  have oF:=HR.o.later jN;obtain⟨_,_,_,k3,_,_,_,f⟩:=oF.cells;have f3:=f 3;have nXv:¬X vb:=λh=>by have:=HX.o vb h;omega
  have F0:=oF.aiX (some ⟨vb,0,none⟩) 32 vc (b.take 32) pz (λ_ y o f e=>by cases e;exact⟨by omega,by omega,nXv⟩);have fH:x1.grownBy (x1.setCell ⟨gh,3,none⟩ (.slice (some ⟨vb,0,none⟩) 32 vc)) (some gh):=bI.setCell x1 gh 3 _;have Ot:eE gh gm w (x1.setCell ⟨gh,3,none⟩ (.slice (some ⟨vb,0,none⟩) 32 vc)):=(eE.below jN).trans (eE.left fH);obtain⟨W2,fV⟩:=aW (x1.setCell ⟨gh,3,none⟩ (.slice (some ⟨vb,0,none⟩) 32 vc));rw[fV] at F0 Ot;obtain⟨W,hW⟩:=aW (W2.drew);have cL:Below W2.heap.size W2 W:=by rw[←hW];exact gl
  have Cd:=ak lj;have pZ:=ak (F0.later cL);have sG:ae (eE gh gm w W):=Ot.trans (eE.below cL);have pd:=ak hW;have Bp:ae (∀w',bI gm W w'→w'.cell? ⟨gh,0,none⟩=some (.pointer (some ⟨gm,0,none⟩))∧w'.cell? ⟨gh,3,none⟩=some (.slice (some ⟨vb,0,none⟩) 32 vc)):=λw' hw'=>by obtain⟨p0,_,_,p3,_⟩:=pZ.o.cells;have hh:=pZ.o.hm;have e:=hw'.block gh pZ.o.lt (λe=>hh (by cases e;rfl));exact⟨(World.cell?_of_block e).trans p0,(World.cell?_of_block e).trans p3⟩
  clear iz lj cH EL jN oF f F0 fH Ot hW cL pz q0 q1 q2 q3 q4
  go_enter func17,ntmps17
  go_wp2_with (at_builtin;refine ao rfl (.tmp 34) (.tmp 36) 22 rfl _ _ _ _ rfl rfl Cd.o ?_)
  refine ah (G:=bI gm) (by kernel_rfl) (bI.refl gm) (bI.trans gm) (by kernel_rfl) [(0,true),(1,true),(2,true),(3,true),(4,true),(5,true),(6,true),(7,true),(8,false)] rfl (by kernel_rfl) ?_;intro KK cA;rw[pd.o];clear k3 f3 fV Cd
  iterate 8 (refine aa rfl (by rfl) (v:=?_) ?_ ?_;rotate_left;(intro w' hw';obtain⟨q1,q2⟩:=Bp.o w' hw';clear hw';go_simp;with_reducible rfl);go_simp)
  refine aU (f:=25) (args:=#[.pointer (some ⟨gm,0,none⟩),.slice (some ⟨vb,0,none⟩) 32 vc]) rfl (by rfl) (by go_simp) ?_;obtain⟨c1,c2,c3,c4,c5,c6,c7,c8,c9,vO,tT⟩:=pZ.o.mx;refine(gZ gm c1 c2 c3 c4 c5 c6 c7 c8 c9 x.M.C x.M.H x.M.K x.M.has x.M.n (some ⟨vb,0,none⟩) 32 vc (b.take 32) W vO (λy=>X y∨y=gh) (FG.o W sG.o.size) tT pZ.o.rr (λe=>by cases e) (by omega)).mono ?_;rintro e w2 ⟨⟨v2,rfl⟩,fH,wz⟩;refine⟨_,rfl,fH,?_⟩;clear vO tT;obtain⟨m2,nO⟩:=aW (x.M.hash (b.take 32));have EI:x4 w2 gm (λy=>X y∨y=gh) m2:=by rw[←nO];exact wz
  obtain⟨V,hV⟩:=aW (w2.drew);have Ah:Below w2.heap.size w2 V:=by rw[←hV];exact gl
  have BM:=ak ((pZ.o.turned m2 fH EI (λ_=>rfl)).later Ah);have EJ:ae (eE gh gm w V):=(sG.o.trans (eE.right fH)).trans (eE.below Ah);have WV:=ak hV;have HCv:ae (∀w',bI gm V w'→w'.cell? ⟨gh,2,none⟩=some (.slice (some ⟨nb,no,none⟩) 32 nc)∧w'.cell? ⟨gh,3,none⟩=some (.slice (some ⟨vb,0,none⟩) 32 vc)):=λw' hw'=>by obtain⟨_,_,p2,p3,_⟩:=BM.o.cells;have hh:=BM.o.hm;have e:=hw'.block gh BM.o.lt (λe=>hh (by cases e;rfl));exact⟨(World.cell?_of_block e).trans p2,(World.cell?_of_block e).trans p3⟩
  clear fH wz EI hV Ah pZ sG pd Bp;go_simp
  refine az cA ?_;clear cA
  go_wp2_with fail
  refine ah (G:=bI gm) (by kernel_rfl) (bI.refl gm) (bI.trans gm) (by kernel_rfl) [(0,true),(1,true),(2,true),(3,true),(4,true),(5,true),(6,true),(7,true),(8,true),(9,false),(10,true)] rfl (by kernel_rfl) ?_;intro KK cA;rw[WV.o]
  iterate 9 (refine aa rfl (by rfl) (v:=?_) ?_ ?_;rotate_left;(intro w' hw';obtain⟨q1,q2⟩:=HCv.o w' hw';clear hw';go_simp;with_reducible rfl);go_simp)
  refine aU (f:=33) (args:=#[.pointer (some ⟨gh,0,none⟩),.slice (some ⟨nb,no,none⟩) 32 nc,.slice (some ⟨vb,0,none⟩) 32 vc]) rfl (by rfl) (by go_simp) ?_;refine(mY gh gm (λy=>X y∨y=gh) m2 (some ⟨nb,no,none⟩) nc x.once (some ⟨vb,0,none⟩) vc (b.take 32) V BM.o.cells.1 (FG.o V EJ.o.size) BM.o.mx BM.o.on BM.o.rr).mono ?_;rintro e w3 ⟨rfl,fP,vo⟩;refine⟨_,rfl,fP,?_⟩;obtain⟨m3,xx⟩:=aW (m2.key (eH x.once (b.take 32)));rw[xx] at vo;obtain⟨o1,xV⟩:=aW ((!decide (mK x.once (b.take 32)=0)));rw[xV];obtain⟨Y,hY⟩:=aW (w3.drew);have E':Below w3.heap.size w3 Y:=by rw[←hY];exact gl
  have qf:=ak ((BM.o.turned m3 fP vo (λ_=>rfl)).later E');have wY:ae (eE gh gm w Y):=(EJ.o.trans (eE.right fP)).trans (eE.below E');have yV:=ak hY;have f8:=ak (And.intro nO (And.intro xx xV));have VV:ae (∀w',bI gm Y w'→w'.cell? ⟨gh,1,none⟩=some (.slice (some ⟨ob,oo,none⟩) 32 oc)∧w'.cell? ⟨gh,3,none⟩=some (.slice (some ⟨vb,0,none⟩) 32 vc)):=λw' hw'=>by obtain⟨_,p1,_,p3,_⟩:=qf.o.cells;have hh:=qf.o.hm;have e:=hw'.block gh qf.o.lt (λe=>hh (by cases e;rfl));exact⟨(World.cell?_of_block e).trans p1,(World.cell?_of_block e).trans p3⟩
  clear fP vo hY E' nO xx xV BM EJ WV HCv;go_simp
  iterate 1 (refine aa rfl (by rfl) (v:=?_) ?_ ?_;rotate_left;(intro w' hw';clear hw';go_simp;with_reducible rfl);go_simp)
  refine az cA ?_;clear cA
  go_wp2_with fail
  refine ah (G:=bI gm) (by kernel_rfl) (bI.refl gm) (bI.trans gm) (by kernel_rfl) [(0,true),(1,true),(2,true),(3,true),(4,true),(5,true),(6,true),(7,true),(8,true),(9,false),(10,true)] rfl (by kernel_rfl) ?_;intro KK cA;rw[yV.o]
  iterate 9 (refine aa rfl (by rfl) (v:=?_) ?_ ?_;rotate_left;(intro w' hw';obtain⟨q1,q2⟩:=VV.o w' hw';clear hw';go_simp;with_reducible rfl);go_simp)
  refine aU (f:=33) (args:=#[.pointer (some ⟨gh,0,none⟩),.slice (some ⟨ob,oo,none⟩) 32 oc,.slice (some ⟨vb,0,none⟩) 32 vc]) rfl (by rfl) (by go_simp) ?_;refine(mY gh gm (λy=>X y∨y=gh) m3 (some ⟨ob,oo,none⟩) oc x.own (some ⟨vb,0,none⟩) vc (b.take 32) Y qf.o.cells.1 (FG.o Y wY.o.size) qf.o.mx qf.o.ow qf.o.rr).mono ?_;rintro e w7 ⟨rfl,Cz,Oo⟩;refine⟨_,rfl,Cz,?_⟩;obtain⟨m5,LU⟩:=aW (m3.key (eH x.own (b.take 32)));rw[LU] at Oo;obtain⟨o2,B6⟩:=aW ((!decide (mK x.own (b.take 32)=0)));rw[B6];have Cm:=ak (qf.o.turned m5 Cz Oo (λ_=>rfl));have sL:ae (eE gh gm w w7):=wY.o.trans (eE.right Cz);have tu:=ak (And.intro LU B6);clear Cz Oo LU B6 qf wY yV VV;go_simp
  iterate 1 (refine aa rfl (by rfl) (v:=?_) ?_ ?_;rotate_left;(intro w' hw';clear hw';go_simp;with_reducible rfl);go_simp)
  refine az cA ?_;clear cA
  by_cases Jo:o1=true∧o2=true
  ·obtain⟨rfl,rfl⟩:=Jo;obtain⟨Z,hZ⟩:=aW (w7.drew);have hgz:Below w7.heap.size w7 Z:=by rw[←hZ];exact gl
   have Oa:=ak (Cm.o.later hgz);have wH:ae (eE gh gm w Z):=sL.o.trans (eE.below hgz);have HZe:=ak hZ;have HCz:ae (∀w',bI gm Z w'→w'.cell? ⟨gh,0,none⟩=some (.pointer (some ⟨gm,0,none⟩))):=λw' hw'=>by obtain⟨p0,_⟩:=Oa.o.cells;have hh:=Oa.o.hm;have e:=hw'.block gh Oa.o.lt (λe=>hh (by cases e;rfl));exact(World.cell?_of_block e).trans p0
   have hBz:=(eE.nw HB.o wH.o SB.o).sub (n:=32) (q:=lb) (by omega) (di _);rw[su (by rw[List.length_drop];omega)] at hBz;have Yv:=ak hBz;clear hZ hgz Cm sL hBz
   go_wp2_with fail
   refine ah (G:=bI gm) (by kernel_rfl) (bI.refl gm) (bI.trans gm) (by kernel_rfl) [(0,true),(1,true),(2,true),(3,true),(4,true),(5,true),(6,false),(7,true),(8,true),(9,true),(10,true),(11,true)] rfl (by kernel_rfl) ?_;intro KK cA;rw[HZe.o]
   iterate 6 (refine aa rfl (by rfl) (v:=?_) ?_ ?_;rotate_left;(intro w' hw';have q1:=HCz.o w' hw';clear hw';go_simp;with_reducible rfl);go_simp)
   refine aU (f:=38) (args:=#[.pointer (some ⟨gm,0,none⟩),.slice (some ⟨bb,bo+32,none⟩) (lb-32) (cb-32)]) rfl (by rfl) (by go_simp) ?_;obtain⟨c1,c2,c3,c4,c5,c6,c7,c8,c9,vO,tT⟩:=Oa.o.mx;refine(yJ gm c1 c2 c3 c4 c5 c6 c7 c8 c9 m5.C m5.H m5.K m5.has m5.n (some ⟨bb,bo+32,none⟩) (lb-32) (cb-32) (b.drop 32) Z vO (λy=>X y∨y=gh) (FG.o Z wH.o.size) tT (by rw[←tu.o.1];exact Nat.zero_le _) Yv.o (λe=>by cases e) (by omega) (by omega) (by omega) (λ_ y o f e=>by cases e;exact HBn.o.2)).mono ?_;rintro e w8 ⟨v8,rfl,uU,VW,n8,wS⟩;refine⟨_,rfl,uU,?_⟩;clear vO tT;obtain⟨VX,AY⟩:∃er,mZ m5.K m5.has m5.n m5.H (b.drop 32)=er:=⟨_,rfl⟩;rw[AY];obtain⟨m6,Jp⟩:=aW (m5.opened (b.drop 32));have EK:x4 w8 gm (λy=>X y∨y=gh) m6:=by rw[←Jp];exact VW
   obtain⟨s8,jm⟩:=aW (m5.text (b.drop 32));have tK:w8.ownsRow w.heap.size 5 1 v8 n8 (s8.map bv):=by rw[←jm];exact bQ wS wH.o.size
   have iK:=ak (Oa.o.turned m6 uU EK (λ_=>rfl));have VZ:ae (eE gh gm w w8):=wH.o.trans (eE.right uU);have Jk:=ak tK;have rb:x.d1 b=m5:=by rw[←tu.o.1,←f8.o.2.1,←f8.o.1];rfl
   have he:x.eJ b=VX:=by
    unfold NS.eJ;rw[if_pos HS.o,if_neg (by omega),if_neg,rb]
    ·exact AY
    ·have e1:=f8.o.2.2;have e2:=tu.o.2;unfold NS.ok NS.hR;simp at e1 e2;simp[e1,e2]
   have ho:x.jo b=s8:=by unfold NS.jo;rw[rb];exact jm
   have HF:=ak (And.intro he (And.intro ho (And.intro rb Jp)));clear uU VW EK wS tK AY Jp jm he ho rb Oa wH HZe HCz Yv;go_simp
   iterate 5 (refine aa rfl (by rfl) (v:=?_) ?_ ?_;rotate_left;(intro w' hw';clear hw';go_simp;with_reducible rfl);go_simp)
   refine az cA ?_;clear cA
   by_cases h0:VX=0
   ·subst h0;obtain⟨_,_,_,_,_,_,k6,f6⟩:=iK.o.cells;have f6':=f6 6;have Cf:=iK.o.setAt 2 (λ_=>rfl);have AZ:w8.grownBy (w8.setCell ⟨gh,6,none⟩ (.int .i64 ((2:Nat):Int))) (some gh):=bI.setCell w8 gh 6 _;have Oq:=cT Jk.o AZ (λb' cU e=>by have:=(aad Jk.o b' cU).1;cases e;omega);have anS:=ak (VZ.o.trans (eE.left AZ));have xt:=ak Cf;have YG:=ak Oq;have hf:x.done b=⟨m6,x.own,x.once,b.take 32,x.S,x.bP,2⟩:=by unfold NS.done;rw[if_pos HF.o.1,HF.o.2.2.1,HF.o.2.2.2];rfl
    have HFf:=ak hf;clear f6 Cf AZ Oq hf
    go_wp2_with fail
    all_goals
     first
     |exact absurd HF.o.1 (by assumption)
     |(rw[HFf.o,HF.o.2.1];go_ret2;exact⟨_,rfl,anS.o,⟨_,λ_=>rfl,_,_,_,_,_,_,_,_,_,_,_,_,_,xt.o⟩,_,YG.o⟩)
   ·have h0':¬(VX:Int)=0:=by omega
    have hf:x.done b=x.gI:=by unfold NS.done;rw[if_neg (by rw[HF.o.1];exact h0)]
    have HFf:=ak hf;clear hf
    go_wp2_with fail
    refine(cV gh gm X _ m6 ob oo oc nb no nc (some ⟨vb,0,none⟩) 32 vc sb so sc VX w8 iK.o).mono ?_;rintro e w9 ⟨rfl,AZ,Cf⟩;have X8:=ak (VZ.o.trans (eE.left AZ));have xt:=ak Cf;clear AZ Cf
    go_wp2_with fail
    all_goals
     first
      |exact absurd (HF.o.1.symm.trans (by assumption)) h0
      |((try rw[HF.o.1]);(try rw[HFf.o]);go_ret2;exact⟨_,rfl,X8.o,⟨_,λh=>absurd rfl h,_,_,_,_,_,_,_,_,_,_,_,_,_,⟨xt.o.row,xt.o.ow,xt.o.on,xt.o.rr,xt.o.ss,xt.o.mx,λh=>absurd rfl h,xt.o.hm,xt.o.ng,xt.o.rg,xt.o.nx⟩⟩,0,⟨rfl,.inl ⟨rfl,rfl⟩⟩⟩)
  ·have he:x.eJ b=4:=by unfold NS.eJ;rw[if_pos HS.o,if_neg (by omega),if_pos];rintro⟨h1,h2⟩;apply Jo;rw[←f8.o.2.2,←tu.o.2];unfold NS.ok NS.hR at h1 h2;simp[h1,h2]
   have hf:x.done b=x.gI:=by unfold NS.done;rw[he];rfl
   have A4:=ak (And.intro he hf);have C4:o1=false∨(o1=true∧o2=false):=by cases o1<;>cases o2<;>simp at Jo⊢
   clear he hf Jo
   rcases C4 with rfl|⟨rfl,rfl⟩
   all_goals
    go_wp2_with fail
    refine(cV gh gm X _ m5 ob oo oc nb no nc (some ⟨vb,0,none⟩) 32 vc sb so sc 4 w7 Cm.o).mono ?_;rintro e w8 ⟨rfl,uU,Ce⟩;have Mz:=ak (sL.o.trans (eE.left uU));have iK:=ak Ce;clear uU Ce
    go_wp2_with fail
    all_goals
     first
      |exact absurd (A4.o.1.symm.trans (by assumption):(4:Nat)=0) (by decide)
      |((try rw[A4.o.1]);(try rw[A4.o.2]);go_ret2;exact⟨_,rfl,Mz.o,⟨_,λh=>absurd rfl h,_,_,_,_,_,_,_,_,_,_,_,_,_,⟨iK.o.row,iK.o.ow,iK.o.on,iK.o.rr,iK.o.ss,iK.o.mx,λh=>absurd rfl h,iK.o.hm,iK.o.ng,iK.o.rg,iK.o.nx⟩⟩,0,⟨rfl,.inl ⟨rfl,rfl⟩⟩⟩)
 ·have he:x.eJ b=10:=by unfold NS.eJ;rw[if_neg hs]
  have hf:x.done b=x.gI:=by unfold NS.done;rw[he];rfl
  rw[he,hf];clear he hf
  by_cases h1:x.bP=true
  ·have h2:¬x.st=1:=λh=>hs ⟨h1,h⟩;have Qu:¬(x.st:Int)=1:=by omega
   rw[h1] at q5;clear hs
   go_enter func17,ntmps17
   go_wp2_with fail
   refine(cV gh gm X x m ob oo oc nb no nc ra rl rc sb so sc 10 w HR.o).mono ?_;rintro e w1 ⟨rfl,oI,oF⟩;have mL:=ak oI;have uA:=ak oF;clear oI oF
   go_wp2_with fail
   go_ret2
   exact⟨_,rfl,eE.left mL.o,⟨_,λh=>absurd rfl h,_,_,_,_,_,_,_,_,_,_,_,_,_,uA.o⟩,0,⟨rfl,.inl ⟨rfl,rfl⟩⟩⟩
  ·have LR:x.bP=false:=by simpa using h1
   rw[LR] at q5;clear hs h1
   go_enter func17,ntmps17
   go_wp2_with fail
   refine(cV gh gm X x m ob oo oc nb no nc ra rl rc sb so sc 10 w HR.o).mono ?_;rintro e w1 ⟨rfl,oI,oF⟩;have mL:=ak oI;have uA:=ak oF;clear oI oF
   go_wp2_with fail
   go_ret2
   exact⟨_,rfl,eE.left mL.o,⟨_,λh=>absurd rfl h,_,_,_,_,_,_,_,_,_,_,_,_,_,uA.o⟩,0,⟨rfl,.inl ⟨rfl,rfl⟩⟩⟩
theorem Aa (m:MS)(k b:aO)(h:(m.key k).err b=0):((m.key k).text b).length=b.length-16:=by
 dsimp only[MS.err,MS.key,MS.text,mZ,og] at h⊢;rw[if_neg (by decide),if_neg (by unfold gf;decide)] at h;rw[if_neg (by decide),if_neg (by unfold gf;decide)];split at h<;>rename_i h2
 ·rw[if_pos h2,pL]
 ·cases h
theorem IH (gh gm:Nat)(X:Nat→Prop)(x:NS)(m:MS)(ob oo oc nb no nc:Nat)(ra:bW)(rl rc sb so sc:Nat)(ba:bW)(lb cb:Nat)(b:aO)(w:aw)(hR:RN w gh gm X x m ob oo oc nb no nc ra rl rc sb so sc)(hX:∀y,X y→y<w.heap.size)
  (hB:bj w ba lb b) (kX:ba=none→cb=0) (FN:lb≤800) (rf:lb≤cb) (m7:cb≤maxLen) (pW:0<lb→∀y o f,ba=some ⟨y,o,f⟩→y≠gh∧y≠gm):
  Calls prog 13 #[.pointer (some ⟨gh,0,none⟩),.slice ba lb cb] w λe w'=>∃v,e= .returned (.tuple #[v,.int .i64 ((x.dD b:Nat):Int)])∧eE gh gm w w'∧Am w' gh gm X (x.mh b)∧∃q,w'.ownsRow w.heap.size 5 1 v q ((if x.dD b=0 then x.jI b else[]).map bv):=by
 have oa:=hR.lt;have rP:=hR.mx.lt;have kW:=hB.1;obtain⟨q0,q1,q2,q3,q4,q5,q6,_⟩:=hR.cells;have HR:=ak hR;have HX:=ak hX;have HB:=ak hB;have SB:=ak pW;clear hR hX hB pW
 by_cases hs:x.bP=false∧x.st=0
 ·obtain⟨jF,iJ⟩:=hs;have HS:=ak (And.intro jF iJ);have DO:x.st≠9:=by omega
  rw[jF] at q5;rw[iJ] at q6;clear jF iJ
  by_cases auW:lb<96
  ·have he:x.dD b=2:=by unfold NS.dD;rw[if_pos HS.o,if_pos (by omega)]
   have hf:x.mh b=x.gI:=by unfold NS.mh;rw[he];rfl
   rw[he,hf];clear he hf;have i1:(lb:Int)<96:=by omega
   go_enter func13,ntmps13
   go_wp2_with fail
   refine(cV gh gm X x m ob oo oc nb no nc ra rl rc sb so sc 2 w HR.o).mono ?_;rintro e w1 ⟨rfl,oI,oF⟩;have mL:=ak oI;have uA:=ak oF;clear oI oF
   go_wp2_with fail
   go_ret2
   exact⟨_,rfl,eE.left mL.o,⟨_,λh=>absurd rfl h,_,_,_,_,_,_,_,_,_,_,_,_,_,uA.o⟩,0,⟨rfl,.inl ⟨rfl,rfl⟩⟩⟩
  have i1:¬(lb:Int)<96:=by omega
  obtain⟨bb,bo,rfl,_⟩:=HB.o.at_ 0 (by omega);have i2:(32:Int)≤(cb:Int):=by omega
  have i3:(lb:Int)≤(cb:Int):=by omega
  have i4:(32:Int)≤(lb:Int):=by omega
  have i5:¬cb=32:=by omega
  have i6:(80:Int)≤(cb:Int):=by omega
  have i7:(80:Int)≤(lb:Int):=by omega
  have i8:¬cb=80:=by omega
  have ab9:cb≤9223372036854775807:=by unfold maxLen at m7;exact m7
  have HBn:ae (bb≠gh∧bb≠gm):=SB.o (by omega) bb bo none rfl;have FG:ae (∀W:aw,w.heap.size≤W.heap.size→∀y,(X y∨y=gh)→y<W.heap.size):=λW hW y h=>tV (h.elim (λh=>HX.o y h) (λh=>by rw[h];exact oa)) hW;have Hw:m=x.M:=HR.o.mm DO;subst Hw;have iz:Below w.heap.size w (w.alloc (.cells #[] 5)):=eF;obtain⟨v1,x1,lj,cH,EL⟩:=bx (w.alloc (.cells #[] 5)) w.heap.size (.slice (some ⟨w.heap.size,0,none⟩) 0 0) 0 [] (World.ownsRow_made w #[] 0 (di _) (Nat.zero_le _) rfl) (some ⟨bb,bo,none⟩) 32 cb (b.take 32) ((HB.o.cut (by omega)).later iz) (λe=>by cases e) (by simp) (by omega);have jN:Below w.heap.size w x1:=iz.grown EL (by simp) (λk hk=>by simp[Value.ownBlock] at hk;omega);rw[Nat.zero_add,List.nil_append] at cH;obtain⟨vb,vc,rfl,Sn,_⟩:=gO cH (by omega);obtain⟨_,_,e1,pz,gi,sC,_⟩:=bq cH;cases e1
  have oF:=HR.o.later jN;obtain⟨_,_,_,k3,_,_,_,f⟩:=oF.cells;have f3:=f 3;have nXv:¬X vb:=λh=>by have:=HX.o vb h;omega
  have F0:=oF.aiX (some ⟨vb,0,none⟩) 32 vc (b.take 32) pz (λ_ y o f e=>by cases e;exact⟨by omega,by omega,nXv⟩);have fH:x1.grownBy (x1.setCell ⟨gh,3,none⟩ (.slice (some ⟨vb,0,none⟩) 32 vc)) (some gh):=bI.setCell x1 gh 3 _;have Ot:eE gh gm w (x1.setCell ⟨gh,3,none⟩ (.slice (some ⟨vb,0,none⟩) 32 vc)):=(eE.below jN).trans (eE.left fH);obtain⟨W2,fV⟩:=aW (x1.setCell ⟨gh,3,none⟩ (.slice (some ⟨vb,0,none⟩) 32 vc));rw[fV] at F0 Ot;obtain⟨W,hW⟩:=aW (W2.drew);have cL:Below W2.heap.size W2 W:=by rw[←hW];exact gl
  have Cd:=ak lj;have pZ:=ak (F0.later cL);have sG:ae (eE gh gm w W):=Ot.trans (eE.below cL);have pd:=ak hW;have Bp:ae (∀w',bI gm W w'→w'.cell? ⟨gh,0,none⟩=some (.pointer (some ⟨gm,0,none⟩))∧w'.cell? ⟨gh,3,none⟩=some (.slice (some ⟨vb,0,none⟩) 32 vc)):=λw' hw'=>by obtain⟨p0,_,_,p3,_⟩:=pZ.o.cells;have hh:=pZ.o.hm;have e:=hw'.block gh pZ.o.lt (λe=>hh (by cases e;rfl));exact⟨(World.cell?_of_block e).trans p0,(World.cell?_of_block e).trans p3⟩
  clear iz lj cH EL jN oF f F0 fH Ot hW cL pz q0 q1 q2 q3 q4
  go_enter func13,ntmps13
  go_wp2_with (at_builtin;refine ao rfl (.tmp 35) (.tmp 37) 22 rfl _ _ _ _ rfl rfl Cd.o ?_)
  refine ah (G:=bI gm) (by kernel_rfl) (bI.refl gm) (bI.trans gm) (by kernel_rfl) [(0,true),(1,true),(2,true),(3,true),(4,true),(5,true),(6,true),(7,true),(8,false)] rfl (by kernel_rfl) ?_;intro KK cA;rw[pd.o];clear k3 f3 fV Cd
  iterate 8 (refine aa rfl (by rfl) (v:=?_) ?_ ?_;rotate_left;(intro w' hw';obtain⟨q1,q2⟩:=Bp.o w' hw';clear hw';go_simp;with_reducible rfl);go_simp)
  refine aU (f:=25) (args:=#[.pointer (some ⟨gm,0,none⟩),.slice (some ⟨vb,0,none⟩) 32 vc]) rfl (by rfl) (by go_simp) ?_;obtain⟨c1,c2,c3,c4,c5,c6,c7,c8,c9,vO,tT⟩:=pZ.o.mx;refine(gZ gm c1 c2 c3 c4 c5 c6 c7 c8 c9 x.M.C x.M.H x.M.K x.M.has x.M.n (some ⟨vb,0,none⟩) 32 vc (b.take 32) W vO (λy=>X y∨y=gh) (FG.o W sG.o.size) tT pZ.o.rr (λe=>by cases e) (by omega)).mono ?_;rintro e w2 ⟨⟨v2,rfl⟩,fH,wz⟩;refine⟨_,rfl,fH,?_⟩;clear vO tT;obtain⟨m2,nO⟩:=aW (x.M.hash (b.take 32));have EI:x4 w2 gm (λy=>X y∨y=gh) m2:=by rw[←nO];exact wz
  obtain⟨V,hV⟩:=aW (w2.drew);have Ah:Below w2.heap.size w2 V:=by rw[←hV];exact gl
  have BM:=ak ((pZ.o.turned m2 fH EI (λ_=>rfl)).later Ah);have EJ:ae (eE gh gm w V):=(sG.o.trans (eE.right fH)).trans (eE.below Ah);have WV:=ak hV;have HCv:ae (∀w',bI gm V w'→w'.cell? ⟨gh,1,none⟩=some (.slice (some ⟨ob,oo,none⟩) 32 oc)∧w'.cell? ⟨gh,3,none⟩=some (.slice (some ⟨vb,0,none⟩) 32 vc)):=λw' hw'=>by obtain⟨_,p2,_,p3,_⟩:=BM.o.cells;have hh:=BM.o.hm;have e:=hw'.block gh BM.o.lt (λe=>hh (by cases e;rfl));exact⟨(World.cell?_of_block e).trans p2,(World.cell?_of_block e).trans p3⟩
  clear fH wz EI hV Ah pZ sG pd Bp;go_simp
  refine az cA ?_;clear cA
  go_wp2_with fail
  refine ah (G:=bI gm) (by kernel_rfl) (bI.refl gm) (bI.trans gm) (by kernel_rfl) [(0,true),(1,true),(2,true),(3,true),(4,true),(5,true),(6,true),(7,true),(8,true),(9,false),(10,true)] rfl (by kernel_rfl) ?_;intro KK cA;rw[WV.o]
  iterate 9 (refine aa rfl (by rfl) (v:=?_) ?_ ?_;rotate_left;(intro w' hw';obtain⟨q1,q2⟩:=HCv.o w' hw';clear hw';go_simp;with_reducible rfl);go_simp)
  refine aU (f:=33) (args:=#[.pointer (some ⟨gh,0,none⟩),.slice (some ⟨ob,oo,none⟩) 32 oc,.slice (some ⟨vb,0,none⟩) 32 vc]) rfl (by rfl) (by go_simp) ?_;refine(mY gh gm (λy=>X y∨y=gh) m2 (some ⟨ob,oo,none⟩) oc x.own (some ⟨vb,0,none⟩) vc (b.take 32) V BM.o.cells.1 (FG.o V EJ.o.size) BM.o.mx BM.o.ow BM.o.rr).mono ?_;rintro e w3 ⟨rfl,fP,vo⟩;refine⟨_,rfl,fP,?_⟩;obtain⟨m3,xx⟩:=aW (m2.key (eH x.own (b.take 32)));rw[xx] at vo;obtain⟨o1,xV⟩:=aW ((!decide (mK x.own (b.take 32)=0)));rw[xV];have Lq:=ak (BM.o.turned m3 fP vo (λ_=>rfl));have aeh:ae (eE gh gm w w3):=EJ.o.trans (eE.right fP);have f8:=ak (And.intro nO (And.intro xx xV));clear fP vo nO xx xV BM EJ WV HCv;go_simp
  iterate 1 (refine aa rfl (by rfl) (v:=?_) ?_ ?_;rotate_left;(intro w' hw';clear hw';go_simp;with_reducible rfl);go_simp)
  refine az cA ?_;clear cA;have hh1:x.h1 b=m3:=by rw[←f8.o.2.1,←f8.o.1];rfl
  by_cases Jo:o1=true
  ·subst Jo;have ai1:¬¬NS.ok x.own (NS.hR b):=by have e1:=f8.o.2.2;unfold NS.ok NS.hR;simp at e1;simp[e1]
   have T4:=ak (And.intro hh1 ai1);obtain⟨Y,hY⟩:=aW (w3.drew);have E':Below w3.heap.size w3 Y:=by rw[←hY];exact gl
   have qf:=ak (Lq.o.later E');have wY:ae (eE gh gm w Y):=aeh.o.trans (eE.below E');have yV:=ak hY;have VV:ae (∀w',bI gm Y w'→w'.cell? ⟨gh,0,none⟩=some (.pointer (some ⟨gm,0,none⟩))):=λw' hw'=>by obtain⟨p0,_⟩:=qf.o.cells;have hh:=qf.o.hm;have e:=hw'.block gh qf.o.lt (λe=>hh (by cases e;rfl));exact(World.cell?_of_block e).trans p0
   have hBy:bj Y (some ⟨bb,bo+32,none⟩) 48 (NS.hB b):=(eE.nw HB.o wY.o SB.o).sub (n:=32) (q:=80) (by omega) (by omega);have Wq:(NS.hB b).length=48:=hBy.1;have Rm:=ak hBy;clear hY E' Lq aeh hBy hh1 ai1
   go_wp2_with fail
   refine ah (G:=bI gm) (by kernel_rfl) (bI.refl gm) (bI.trans gm) (by kernel_rfl) [(0,true),(1,true),(2,true),(3,true),(4,true),(5,true),(6,false),(7,true),(8,true),(9,true),(10,true),(11,true)] rfl (by kernel_rfl) ?_;intro KK cA;rw[yV.o]
   iterate 6 (refine aa rfl (by rfl) (v:=?_) ?_ ?_;rotate_left;(intro w' hw';have q1:=VV.o w' hw';clear hw';go_simp;with_reducible rfl);go_simp)
   refine aU (f:=38) (args:=#[.pointer (some ⟨gm,0,none⟩),.slice (some ⟨bb,bo+32,none⟩) 48 (cb-32)]) rfl (by rfl) (by go_simp) ?_;obtain⟨c1,c2,c3,c4,c5,c6,c7,c8,c9,vO,tT⟩:=qf.o.mx;refine(yJ gm c1 c2 c3 c4 c5 c6 c7 c8 c9 m3.C m3.H m3.K m3.has m3.n (some ⟨bb,bo+32,none⟩) 48 (cb-32) (NS.hB b) Y vO (λy=>X y∨y=gh) (FG.o Y wY.o.size) tT (by rw[←f8.o.2.1];exact Nat.zero_le _) Rm.o (λe=>by cases e) (by omega) (by omega) (by omega) (λ_ y o f e=>by cases e;exact HBn.o.2)).mono ?_;rintro e w5 ⟨v5,rfl,jG,B7,n5,nF⟩;refine⟨_,rfl,jG,?_⟩;clear vO tT;have qc:m3.err (NS.hB b)=mZ m3.K m3.has m3.n m3.H (NS.hB b):=rfl;obtain⟨er5,aei⟩:∃er,mZ m3.K m3.has m3.n m3.H (NS.hB b)=er:=⟨_,rfl⟩;rw[aei] at qc;rw[aei];obtain⟨m4,H5⟩:=aW (m3.opened (NS.hB b));have ai3:x4 w5 gm (λy=>X y∨y=gh) m4:=by rw[←H5];exact B7
   have rp:er5=0→(m3.text (NS.hB b)).length=32:=λh=>by have h1:=Aa m2 (eH x.own (b.take 32)) (NS.hB b);rw[f8.o.2.1] at h1;have h2:=h1 (by rw[qc];exact h);omega
   obtain⟨s5,EV⟩:=aW (m3.text (NS.hB b));rw[EV] at rp;have aa4:w5.ownsRow w.heap.size 5 1 v5 n5 (s5.map bv):=by rw[←EV];exact bQ nF wY.o.size
   have Km:=ak (qf.o.turned m4 jG ai3 (λ_=>rfl));have FH:ae (eE gh gm w w5):=wY.o.trans (eE.right jG);have tu:=ak aa4;have Ch:=ak (And.intro qc (And.intro H5 EV));have HTl:=ak rp;clear jG B7 ai3 nF aa4 qc aei H5 EV rp qf wY yV VV Rm;go_simp
   iterate 5 (refine aa rfl (by rfl) (v:=?_) ?_ ?_;rotate_left;(intro w' hw';clear hw';go_simp;with_reducible rfl);go_simp)
   refine az cA ?_;clear cA
   by_cases h0:er5=0
   ·subst h0;have Ae:s5.length=32:=HTl.o rfl;obtain rfl:n5=32:=by obtain⟨_,_,_,hb,_⟩:=bq tu.o;have:=hb.1;omega
    obtain⟨vs,vsc,rfl,So,_⟩:=gO tu.o (by omega);obtain⟨_,_,e1,sP,WC,LU,_⟩:=bq tu.o;cases e1
    have nY:=ak sP;obtain⟨_,p1,_,_,_,_,_,_⟩:=Km.o.cells;have nXs:¬X vs:=λh=>by have:=HX.o vs h;omega
    clear sP
    go_wp2_with fail
    refine(mY gh gm (λy=>X y∨y=gh) m4 (some ⟨ob,oo,none⟩) oc x.own (some ⟨vs,0,none⟩) vsc s5 w5 Km.o.cells.1 (FG.o w5 FH.o.size) Km.o.mx Km.o.ow nY.o).mono ?_;rintro e w7 ⟨rfl,Cz,Oo⟩;obtain⟨m5,Zz⟩:=aW (m4.key (eH x.own s5));rw[Zz] at Oo;obtain⟨o2,B6⟩:=aW ((!decide (mK x.own s5=0)));rw[B6];have Ah:vs≠gm:=by omega
    have Cm:=ak (Km.o.turned m5 Cz Oo (λ_=>rfl));have sL:ae (eE gh gm w w7):=FH.o.trans (eE.right Cz);have Cn:=ak (gu nY.o Cz (λy o f e=>by cases e;exact Ah));have Fq:=ak (And.intro Zz B6);have hSx:x.hS b=s5:=by unfold NS.hS;rw[T4.o.1,Ch.o.2.2]
    have hh2:x.h2 b=m5:=by unfold NS.h2;rw[T4.o.1,Ch.o.2.1,hSx,Zz]
    have yg:=ak (And.intro hSx hh2);clear Cz Oo Zz B6 hSx hh2 p1 Km FH tu nY HTl
    by_cases aej:o2=true
    ·subst aej;have ai4:¬¬NS.ok x.own (x.hS b):=by have e1:=Fq.o.2;rw[yg.o.1];unfold NS.ok;simp at e1;simp[e1]
     obtain⟨Z,hZ⟩:=aW (w7.drew);have hgz:Below w7.heap.size w7 Z:=by rw[←hZ];exact gl
     have Oa:=ak (Cm.o.later hgz);have HBZ:=ak (Cn.o.later hgz);have wH:ae (eE gh gm w Z):=sL.o.trans (eE.below hgz);have HZe:=ak hZ;have HCz:ae (∀w',bI gm Z w'→w'.cell? ⟨gh,0,none⟩=some (.pointer (some ⟨gm,0,none⟩))):=λw' hw'=>by obtain⟨p0,_⟩:=Oa.o.cells;have hh:=Oa.o.hm;have e:=hw'.block gh Oa.o.lt (λe=>hh (by cases e;rfl));exact(World.cell?_of_block e).trans p0
     have hBz:=(eE.nw HB.o wH.o SB.o).sub (n:=80) (q:=lb) (by omega) (di _);rw[su (by rw[List.length_drop];omega)] at hBz;have Yv:=ak hBz;have HOk:=ak ai4;clear hZ hgz Cm Cn sL hBz ai4
     go_wp2_with fail
     refine ah (G:=bI gm) (by kernel_rfl) (bI.refl gm) (bI.trans gm) (by kernel_rfl) [(0,true),(1,true),(2,true),(3,true),(4,true),(5,true),(6,false),(7,true),(8,true),(9,true),(10,true),(11,true)] rfl (by kernel_rfl) ?_;intro KK cA;rw[HZe.o]
     iterate 6 (refine aa rfl (by rfl) (v:=?_) ?_ ?_;rotate_left;(intro w' hw';have q1:=HCz.o w' hw';clear hw';go_simp;with_reducible rfl);go_simp)
     refine aU (f:=38) (args:=#[.pointer (some ⟨gm,0,none⟩),.slice (some ⟨bb,bo+80,none⟩) (lb-80) (cb-80)]) rfl (by rfl) (by go_simp) ?_;obtain⟨c1,c2,c3,c4,c5,c6,c7,c8,c9,vO,tT⟩:=Oa.o.mx;refine(yJ gm c1 c2 c3 c4 c5 c6 c7 c8 c9 m5.C m5.H m5.K m5.has m5.n (some ⟨bb,bo+80,none⟩) (lb-80) (cb-80) (b.drop 80) Z vO (λy=>X y∨y=gh) (FG.o Z wH.o.size) tT (by rw[←Fq.o.1];exact Nat.zero_le _) Yv.o (λe=>by cases e) (by omega) (by omega) (by omega) (λ_ y o f e=>by cases e;exact HBn.o.2)).mono ?_;rintro e w8 ⟨v8,rfl,uU,VW,n8,wS⟩;refine⟨_,rfl,uU,?_⟩;clear vO tT;obtain⟨VX,AY⟩:∃er,mZ m5.K m5.has m5.n m5.H (b.drop 80)=er:=⟨_,rfl⟩;rw[AY];obtain⟨m6,Jp⟩:=aW (m5.opened (b.drop 80));have EK:x4 w8 gm (λy=>X y∨y=gh) m6:=by rw[←Jp];exact VW
     obtain⟨s8,jm⟩:=aW (m5.text (b.drop 80));have tK:w8.ownsRow w.heap.size 5 1 v8 n8 (s8.map bv):=by rw[←jm];exact bQ wS wH.o.size
     have iK:=ak (Oa.o.turned m6 uU EK (λ_=>rfl));have HB8:=ak (gu HBZ.o uU (λy o f e=>by cases e;exact Ah));have VZ:ae (eE gh gm w w8):=wH.o.trans (eE.right uU);have Jk:=ak tK;have he:x.dD b=VX:=by unfold NS.dD;rw[if_pos HS.o,if_neg (by omega),if_neg T4.o.2,T4.o.1,if_neg (by rw[Ch.o.1];simp),if_neg HOk.o,yg.o.2];exact AY
     have ho:x.jI b=s8:=by unfold NS.jI;rw[yg.o.2];exact jm
     have HF:=ak (And.intro he (And.intro ho (And.intro yg.o.2 Jp)));clear uU VW EK wS tK AY Jp jm he ho Oa HBZ wH HZe HCz Yv;go_simp
     iterate 5 (refine aa rfl (by rfl) (v:=?_) ?_ ?_;rotate_left;(intro w' hw';clear hw';go_simp;with_reducible rfl);go_simp)
     refine az cA ?_;clear cA
     by_cases h0:VX=0
     ·subst h0;obtain⟨_,_,_,_,k4,_,_,f⟩:=iK.o.cells;have f4:=f 4;have Lt:vs≠gh:=by omega
      have Cf:=iK.o.aiV vs 0 vsc s5 HB8.o ⟨Lt,Ah,nXs⟩;have AZ:w8.grownBy (w8.setCell ⟨gh,4,none⟩ (.slice (some ⟨vs,0,none⟩) 32 vsc)) (some gh):=bI.setCell w8 gh 4 _;have Oq:=cT Jk.o AZ (λb' cU e=>by have:=(aad Jk.o b' cU).1;cases e;omega);have A0:=VZ.o.trans (eE.left AZ);obtain⟨W9,L6⟩:=aW (w8.setCell ⟨gh,4,none⟩ (.slice (some ⟨vs,0,none⟩) 32 vsc));rw[L6] at Cf Oq A0;obtain⟨_,_,_,_,_,_,k6,f'⟩:=Cf.cells;have f6:=f' 6;have ai5:=Cf.setAt 1 (λ_=>rfl);have RQ:W9.grownBy (W9.setCell ⟨gh,6,none⟩ (.int .i64 ((1:Nat):Int))) (some gh):=bI.setCell W9 gh 6 _;have ai6:=cT Oq RQ (λb' cU e=>by have:=(aad Oq b' cU).1;cases e;omega);have ai7:=ak (A0.trans (eE.left RQ));have anV:=ak ai5;have anW:=ak ai6;have hf:x.mh b=⟨m6,x.own,x.once,b.take 32,s5,x.bP,1⟩:=by unfold NS.mh;rw[if_pos HF.o.1,HF.o.2.2.1,HF.o.2.2.2,yg.o.1];rfl
      have HFf:=ak hf;clear f f' Cf AZ Oq A0 ai5 RQ ai6 hf
      go_wp2_with fail
      all_goals
       first
       |exact absurd HF.o.1 (by assumption)
       |(rw[HFf.o,HF.o.2.1];go_ret2;exact⟨_,rfl,ai7.o,⟨_,λ_=>rfl,_,_,_,_,_,_,_,_,_,_,_,_,_,anV.o⟩,_,anW.o⟩)
     ·have h0':¬(VX:Int)=0:=by omega
      have hf:x.mh b=x.gI:=by unfold NS.mh;rw[if_neg (by rw[HF.o.1];exact h0)]
      have A4:=ak (And.intro HF.o.1 hf);clear hf
      go_wp2_with fail
      refine(cV gh gm X _ m6 ob oo oc nb no nc (some ⟨vb,0,none⟩) 32 vc sb so sc VX w8 iK.o).mono ?_;rintro e w9 ⟨rfl,AZ,Cf⟩;have X8:=ak (VZ.o.trans (eE.left AZ));have xt:=ak Cf;clear AZ Cf
      go_wp2_with fail
      all_goals
       first
       |exact absurd (A4.o.1.symm.trans (by assumption)) h0
       |((try rw[A4.o.1]);(try rw[A4.o.2]);go_ret2;exact⟨_,rfl,X8.o,⟨_,λh=>absurd rfl h,_,_,_,_,_,_,_,_,_,_,_,_,_,⟨xt.o.row,xt.o.ow,xt.o.on,xt.o.rr,xt.o.ss,xt.o.mx,λh=>absurd rfl h,xt.o.hm,xt.o.ng,xt.o.rg,xt.o.nx⟩⟩,0,⟨rfl,.inl ⟨rfl,rfl⟩⟩⟩)
    ·have ho3:o2=false:=by simpa using aej
     subst ho3;have he:x.dD b=4:=by unfold NS.dD;rw[if_pos HS.o,if_neg (by omega),if_neg T4.o.2,T4.o.1,if_neg (by rw[Ch.o.1];simp),if_pos];have e1:=Fq.o.2;rw[yg.o.1];unfold NS.ok;simp at e1;simp[e1]
     have hf:x.mh b=x.gI:=by unfold NS.mh;rw[he];rfl
     have A4:=ak (And.intro he hf);clear he hf aej
     go_wp2_with fail
     refine(cV gh gm X _ m5 ob oo oc nb no nc (some ⟨vb,0,none⟩) 32 vc sb so sc 4 w7 Cm.o).mono ?_;rintro e w8 ⟨rfl,uU,Ce⟩;have Mz:=ak (sL.o.trans (eE.left uU));have iK:=ak Ce;clear uU Ce
     go_wp2_with fail
     all_goals
      first
      |exact absurd (A4.o.1.symm.trans (by assumption):(4:Nat)=0) (by decide)
      |((try rw[A4.o.1]);(try rw[A4.o.2]);go_ret2;exact⟨_,rfl,Mz.o,⟨_,λh=>absurd rfl h,_,_,_,_,_,_,_,_,_,_,_,_,_,⟨iK.o.row,iK.o.ow,iK.o.on,iK.o.rr,iK.o.ss,iK.o.mx,λh=>absurd rfl h,iK.o.hm,iK.o.ng,iK.o.rg,iK.o.nx⟩⟩,0,⟨rfl,.inl ⟨rfl,rfl⟩⟩⟩)
   ·have h0':¬(er5:Int)=0:=by omega
    have he:x.dD b=er5:=by unfold NS.dD;rw[if_pos HS.o,if_neg (by omega),if_neg T4.o.2,T4.o.1,if_pos (by rw[Ch.o.1];exact h0),Ch.o.1]
    have hf:x.mh b=x.gI:=by unfold NS.mh;rw[if_neg (by rw[he];exact h0)]
    have A4:=ak (And.intro he hf);clear he hf
    go_wp2_with fail
    refine(cV gh gm X _ m4 ob oo oc nb no nc (some ⟨vb,0,none⟩) 32 vc sb so sc er5 w5 Km.o).mono ?_;rintro e w8 ⟨rfl,uU,Ce⟩;have Mz:=ak (FH.o.trans (eE.left uU));have iK:=ak Ce;clear uU Ce
    go_wp2_with fail
    all_goals
     first
     |exact absurd (A4.o.1.symm.trans (by assumption)) h0
     |((try rw[A4.o.1]);(try rw[A4.o.2]);go_ret2;exact⟨_,rfl,Mz.o,⟨_,λh=>absurd rfl h,_,_,_,_,_,_,_,_,_,_,_,_,_,⟨iK.o.row,iK.o.ow,iK.o.on,iK.o.rr,iK.o.ss,iK.o.mx,λh=>absurd rfl h,iK.o.hm,iK.o.ng,iK.o.rg,iK.o.nx⟩⟩,0,⟨rfl,.inl ⟨rfl,rfl⟩⟩⟩)
  ·have ho3:o1=false:=by simpa using Jo
   subst ho3;have he:x.dD b=4:=by unfold NS.dD;rw[if_pos HS.o,if_neg (by omega),if_pos];have e1:=f8.o.2.2;unfold NS.ok NS.hR;simp at e1;simp[e1]
   have hf:x.mh b=x.gI:=by unfold NS.mh;rw[he];rfl
   have A4:=ak (And.intro he hf);clear he hf Jo
   go_wp2_with fail
   refine(cV gh gm X _ m3 ob oo oc nb no nc (some ⟨vb,0,none⟩) 32 vc sb so sc 4 w3 Lq.o).mono ?_;rintro e w8 ⟨rfl,uU,Ce⟩;have Mz:=ak (aeh.o.trans (eE.left uU));have iK:=ak Ce;clear uU Ce
   go_wp2_with fail
   all_goals
    first
    |exact absurd (A4.o.1.symm.trans (by assumption):(4:Nat)=0) (by decide)
    |((try rw[A4.o.1]);(try rw[A4.o.2]);go_ret2;exact⟨_,rfl,Mz.o,⟨_,λh=>absurd rfl h,_,_,_,_,_,_,_,_,_,_,_,_,_,⟨iK.o.row,iK.o.ow,iK.o.on,iK.o.rr,iK.o.ss,iK.o.mx,λh=>absurd rfl h,iK.o.hm,iK.o.ng,iK.o.rg,iK.o.nx⟩⟩,0,⟨rfl,.inl ⟨rfl,rfl⟩⟩⟩)
 ·have he:x.dD b=10:=by unfold NS.dD;rw[if_neg hs]
  have hf:x.mh b=x.gI:=by unfold NS.mh;rw[he];rfl
  rw[he,hf];clear he hf
  by_cases h1:x.bP=false
  ·have h2:¬x.st=0:=λh=>hs ⟨h1,h⟩;have Qu:¬(x.st:Int)=0:=by omega
   rw[h1] at q5;clear hs
   go_enter func13,ntmps13
   go_wp2_with fail
   refine(cV gh gm X x m ob oo oc nb no nc ra rl rc sb so sc 10 w HR.o).mono ?_;rintro e w1 ⟨rfl,oI,oF⟩;have mL:=ak oI;have uA:=ak oF;clear oI oF
   go_wp2_with fail
   go_ret2
   exact⟨_,rfl,eE.left mL.o,⟨_,λh=>absurd rfl h,_,_,_,_,_,_,_,_,_,_,_,_,_,uA.o⟩,0,⟨rfl,.inl ⟨rfl,rfl⟩⟩⟩
  ·have LR:x.bP=true:=by simpa using h1
   rw[LR] at q5;clear hs h1
   go_enter func13,ntmps13
   go_wp2_with fail
   refine(cV gh gm X x m ob oo oc nb no nc ra rl rc sb so sc 10 w HR.o).mono ?_;rintro e w1 ⟨rfl,oI,oF⟩;have mL:=ak oI;have uA:=ak oF;clear oI oF
   go_wp2_with fail
   go_ret2
   exact⟨_,rfl,eE.left mL.o,⟨_,λh=>absurd rfl h,_,_,_,_,_,_,_,_,_,_,_,_,_,uA.o⟩,0,⟨rfl,.inl ⟨rfl,rfl⟩⟩⟩
end Go.Proofs.YtkdpblbhcfhagaaGreatDoor
