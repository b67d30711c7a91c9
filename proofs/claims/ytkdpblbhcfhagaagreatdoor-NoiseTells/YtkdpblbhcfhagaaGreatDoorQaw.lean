import Derived.Deep.Slices
import Derived.Deep.Strs
import Derived.Test.YtkdpblbhcfhagaaGreatDoorQav
import Derived.Deep.LoopGhost
import Derived.Deep.CutRange
import Derived.Deep.CutBlock
namespace Go.Proofs.YtkdpblbhcfhagaaGreatDoor
open Go.Proofs.Tryz
open _root_.Nat renaming le_refl → di, le_trans → kx, lt_of_lt_of_le → tV
open Go.RowKit.Below renaming refl → bZ, heap_alloc → jE
open Go.World renaming size_alloc → fx
open _root_.Array renaming getElem?_eq_some_iff → gD
open Go renaming undef → ag, World → aw, heap_alloc_new → eC
open _root_.List renaming replicate → cz, not_mem_nil → nj, mem_cons → mg, take_of_length_le → su
open Go.Exit renaming inBlock → nu
set_option maxHeartbeats 64000000
set_option maxRecDepth 100000
open Go.ChangeShapes Go.WideShapes Go.ChangeAt Go.RowKit
def aeC (w:aw)(a:bW)(len cap:Nat):Prop:=
 (a=none∧len=0∧cap=0)∨
 ∃x,a=some x∧len≤cap∧cap≤maxLen∧∀i,i<len→∃ai li ci zs,w.cell? (x.add i)=some (.slice ai li ci)∧xI .u8 w ai li ci zs
theorem afA {H:Type}{enc:TypeId×Value→H}{P:Program}{W:aw}{t e b:TypeId}{a:bW}{len cap:Nat}{d:DataW H}{p:List MemPlace}
  (ht:P.underlying t=some (.slice e)) (he:P.underlying e=some (.slice b)) (hb:P.underlying b=some (.int .u8)) (hc:P.cellsOf e=1) (rf:P.cellsOf b=1)
  (h:DataW.Trod enc P W 0 (λ_=>true) true t (.slice a len cap) d p):aeC W a len cap:=by
 obtain⟨fuel,hf⟩:=h
 rcases DataW.trod_slice ht hf with⟨gw,_⟩|⟨x,l,c,elems,rest,n,_,gw,_,_,hl,hm,hlen,J5,_,_⟩
 ·simp[Value.cells] at gw;obtain⟨rfl,rfl,rfl⟩:=gw;exact .inl ⟨rfl,rfl,rfl⟩
 ·simp[Value.cells] at gw;obtain⟨rfl,rfl,rfl⟩:=gw;refine .inr ⟨x,rfl,hl,hm,λi hi=>?_⟩;have h1:=J5 i hi;rw[List.getElem?_eq_getElem (by omega),hc,Nat.mul_one,Option.bind_eq_some_iff] at h1;obtain⟨cs',RW,hy⟩:=h1
  rcases open_ints he hb rf hy with⟨rfl,_⟩|⟨x',l',c',zs,rfl,_,hl',hm',hz,_,fl,hwz⟩
  ·exact⟨none,0,0,[],cell_of_cells?_one RW,.inl ⟨rfl,rfl,rfl,rfl⟩⟩
  ·exact⟨some x',l',c',zs,cell_of_cells?_one RW,.inr ⟨_,rfl,hl',hm',by simpa using hz,fl,hwz⟩⟩
set_option linter.unusedVariables false
open Go.ChangeShapes Go.WideShapes Go.ChangeAt Go.RowKit Go.Deep
def aeD (w:aw)(x:Addr):Prop:=
 ∃kd a1 l1 c1 z1 a2 l2 c2 z2 n,w.cell? x=some (.int .i64 kd)∧w.cell? (x.add 1)=some (.slice a1 l1 c1)∧w.cell? (x.add 2)=some (.slice a2 l2 c2)∧w.cell? (x.add 3)=some (.int .u64 n)∧
  xI .u8 w a1 l1 c1 z1∧xI .u8 w a2 l2 c2 z2∧(Lit.int .i64 kd).wf=true∧(Lit.int .u64 n).wf=true
def ZL (w:aw)(a:bW)(len cap:Nat):Prop:=
 (a=none∧len=0∧cap=0)∨∃x,a=some x∧len≤cap∧cap≤maxLen∧∀i,i<len→aeD w (x.add (i*4))
section
variable {H:Type} {enc:TypeId×Value→H} {P:Program} {W:aw}
theorem xc {e b:TypeId}{v:Value}{m:Nat}{y:DataW H×List MemPlace}(he:P.underlying e=some (.slice b))(hb:P.underlying b=some (.int .u8))(rf:P.cellsOf b=1)
  (h:DataW.trod enc P W 0 (λ_=>true) true m e [v]=some y):∃a l c zs,v= .slice a l c∧xI .u8 W a l c zs:=by
 rcases open_ints he hb rf h with⟨gw,_⟩|⟨x',l',c',zs,gw,_,hl',hm',hz,_,fl,hwz⟩
 ·simp at gw;exact⟨none,0,0,[],gw,.inl ⟨rfl,rfl,rfl,rfl⟩⟩
 ·simp at gw;exact⟨some x',l',c',zs,gw,.inr ⟨_,rfl,hl',hm',by simpa using hz,fl,hwz⟩⟩
theorem aeE {t e b:TypeId}{f0 f1 f2 f3:Field}{a:bW}{len cap:Nat}{d:DataW H}{p:List MemPlace}
  (ht:P.underlying t=some (.slice e)) (he:P.underlying e=some (.struct #[f0,f1,f2,f3])) (ce:P.cellsOf e=4) (o0:f0.offset=0) (o1:f1.offset=1) (o2:f2.offset=2) (o3:f3.offset=3)
  (c0:P.cellsOf f0.type=1) (c1:P.cellsOf f1.type=1) (c2:P.cellsOf f2.type=1) (c3:P.cellsOf f3.type=1)
  (u0:P.underlying f0.type=some (.int .i64)) (u1:P.underlying f1.type=some (.slice b)) (u2:P.underlying f2.type=some (.slice b)) (u3:P.underlying f3.type=some (.int .u64)) (hb:P.underlying b=some (.int .u8)) (rf:P.cellsOf b=1)
  (h:DataW.Trod enc P W 0 (λ_=>true) true t (.slice a len cap) d p):ZL W a len cap:=by
 obtain⟨fuel,hf⟩:=h
 rcases DataW.trod_slice ht hf with⟨gw,_⟩|⟨x,l,c,elems,rest,n,_,gw,_,_,hl,hm,hlen,J5,_,_⟩
 ·simp[Value.cells] at gw;obtain⟨rfl,rfl,rfl⟩:=gw;exact .inl ⟨rfl,rfl,rfl⟩
 ·simp[Value.cells] at gw;obtain⟨rfl,rfl,rfl⟩:=gw;refine .inr ⟨x,rfl,hl,hm,λi hi=>?_⟩;have h1:=J5 i hi;rw[List.getElem?_eq_getElem (by omega),ce,Option.bind_eq_some_iff] at h1;obtain⟨cs',RW,hy⟩:=h1;obtain⟨_,Wl,fl⟩:=World.cells?_some RW;obtain⟨xs,k,_,_,_,Sg,Sr⟩:=DataW.trod_struct he hy
  match xs,Sg,cs',Wl with
  |[y0,y1,y2,y3],_,[v0,v1,v2,v3],_=>
   have g0:=Sr 0 f0 rfl;have g1:=Sr 1 f1 rfl;have g2:=Sr 2 f2 rfl;have g3:=Sr 3 f3 rfl;simp[o0,o1,o2,o3,c0,c1,c2,c3] at g0 g1 g2 g3;have e0:=fl 0 (by omega);have e1:=fl 1 (by omega);have e2:=fl 2 (by omega);have e3:=fl 3 (by omega);obtain⟨kd,k1,_,k3⟩:=DataW.trod_int u0 g0;obtain⟨a1,l1,q1,z1,k4,k5⟩:=xc u1 hb rf g1;obtain⟨a2,l2,q2,z2,k6,k7⟩:=xc u2 hb rf g2;obtain⟨nn,k8,_,k9⟩:=DataW.trod_int u3 g3;simp at k1 k8;subst k1 k4 k6 k8;have ez:(x.add (i*4)).add 0=x.add (i*4):=by unfold Addr.add;split<;>simp_all
   rw[ez] at e0;exact⟨kd,a1,l1,q1,z1,a2,l2,q2,z2,nn,by simpa using e0,by simpa using e1,by simpa using e2,by simpa using e3,k5,k7,k3,k9⟩
theorem Oz {k e:TypeId}{n m:Nat}{base:Nat}{sp:Nat→Bool}{held:Bool}{cs:bK}{y:DataW H×List MemPlace}(hu:P.underlying k=some (.array n e))(he:P.underlying e=some (.int .u8))(fW:P.cellsOf e=1)(xG:P.cellsOf k=n)(hn:cs.length=n)
  (h:DataW.trod enc P W base sp held m k cs=some y):∃l:aO,l.length=n∧cs=l.map bv:=by
 cases m with
 |zero=>simp[DataW.trod] at h
 |succ m=>
  rw[DataW.trod_step] at h;unfold DataW.trodStep at h;simp only[hu] at h;rw[if_pos (by rw[xG];simpa using hn)] at h;simp only[Option.map_eq_some_iff] at h;obtain⟨ys,hy,_⟩:=h;have J5:=AF he _ ys hy;rw[fW] at J5;have hc:∀i (hi:i<n),∃c:UInt8,cs[i]'(by omega)=bv c:=by
   intro i hi;obtain⟨z,hz,hw⟩:=J5 i (by simpa using hi);have hb:0≤z∧z≤255:=by simpa[Lit.wf,IntKind.min,IntKind.max,IntKind.signed,IntKind.bits] using hw
   refine⟨UInt8.ofNat z.toNat,?_⟩;have h2:i<cs.length:=by omega
   have hg:cs[i]'(by omega)= .int .u8 z:=by
    have:=congrArg (·[0]?) hz
    simpa[List.getElem?_take,h2] using this
   rw[hg,bv]
   congr 1
   simp;omega
  refine⟨(List.range n).map λi=>if h:i<n then(hc i h).choose else 0,by simp,?_⟩;apply List.ext_getElem
  ·simp[hn]
  ·intro i h1 h2;have hi:i<n:=by omega
   simp[hi];exact(hc i hi).choose_spec
theorem afB {t k e:TypeId}{f0 f1 f2:Field}{r:Reach}{b0 base:Nat}{sp:Nat→Bool}{held:Bool}{v:Value}{d:DataW H}{p:List MemPlace}(ht:P.underlying t=some (.struct #[f0,f1,f2]))(ct:P.cellsOf t=34)(o0:f0.offset=0)(o1:f1.offset=32)(o2:f2.offset=33)
  (c0:P.cellsOf f0.type=32) (c1:P.cellsOf f1.type=1) (c2:P.cellsOf f2.type=1) (u0:P.underlying f0.type=some (.array 32 e)) (he:P.underlying e=some (.int .u8)) (fW:P.cellsOf e=1) (u1:P.underlying f1.type=some .bool) (u2:P.underlying f2.type=some (.int .u64))
  (hv:Value.okWide P W r b0 t v) (h:DataW.Trod enc P W base sp held t v d p):∃(key:aO) (has:Bool) (n:Nat),key.length=32∧n≤18446744073709551615∧v= .agg (dM key has n).toArray:=by
 obtain⟨cs,rfl,jH⟩:=okWide_struct ht hv;obtain⟨fuel,hf⟩:=h;obtain⟨y0,y1,y2,m,_,hl,h0,h1,h2⟩:=trod_struct3 ht hf;obtain⟨l⟩:=cs;have hlen:l.length=34:=by simpa[ct] using jH
 simp only[Value.cells,o0,o1,o2,c0,c1,c2,List.drop_zero] at h0 h1 h2;obtain⟨key,hk,e0⟩:=Oz u0 he fW c0 (by simp;omega) h0;obtain⟨has,e1,_⟩:=DataW.trod_bool u1 h1;obtain⟨n,e2,_,wn⟩:=DataW.trod_int u2 h2;have hn:0≤n∧n≤18446744073709551615:=by simpa[Lit.wf,IntKind.min,IntKind.max,IntKind.signed,IntKind.bits] using wn
 obtain⟨q,rfl⟩:∃q:Nat,n=(q:Int):=⟨n.toNat,by omega⟩;refine⟨key,has,q,hk,by omega,?_⟩
 congr 2
 have eA:l.take 32=key.map bv:=by simpa using e0
 have eB:l.drop 32=[.bool has,.int .u64 (q:Int)]:=by
  rw[←List.take_append_drop 1 (l.drop 32),List.drop_drop]
  (try simp at e1 e2)
  rw[e1];have h33:(l.drop 33).length=1:=by simp;omega
  rw[su (by omega)] at e2;rw[show 32+1=33 from rfl,e2];rfl
 rw[←List.take_append_drop 32 l,eA,eB,dM]
end
def aeF (w:aw)(x:Addr):Prop:=
 ∃kd lb a l c z,w.cell? x=some (.int .i64 kd)∧w.cell? (x.add 1)=some (.bool lb)∧w.cell? (x.add 2)=some (.slice a l c)∧xI .u8 w a l c z∧(Lit.int .i64 kd).wf=true
def I0 (w:aw)(a:bW)(len cap:Nat):Prop:=
 (a=none∧len=0∧cap=0)∨∃x,a=some x∧len≤cap∧cap≤maxLen∧∀i,i<len→aeF w (x.add (i*3))
section
variable {H:Type} {enc:TypeId×Value→H} {P:Program} {W:aw}
theorem Me {t e b:TypeId}{f0 f1 f2:Field}{a:bW}{len cap:Nat}{d:DataW H}{p:List MemPlace}
  (ht:P.underlying t=some (.slice e)) (he:P.underlying e=some (.struct #[f0,f1,f2])) (ce:P.cellsOf e=3) (o0:f0.offset=0) (o1:f1.offset=1) (o2:f2.offset=2)
  (c0:P.cellsOf f0.type=1) (c1:P.cellsOf f1.type=1) (c2:P.cellsOf f2.type=1)
  (u0:P.underlying f0.type=some (.int .i64)) (u1:P.underlying f1.type=some .bool) (u2:P.underlying f2.type=some (.slice b)) (hb:P.underlying b=some (.int .u8)) (rf:P.cellsOf b=1)
  (h:DataW.Trod enc P W 0 (λ_=>true) true t (.slice a len cap) d p):I0 W a len cap:=by
 obtain⟨fuel,hf⟩:=h
 rcases DataW.trod_slice ht hf with⟨gw,_⟩|⟨x,l,c,elems,rest,n,_,gw,_,_,hl,hm,hlen,J5,_,_⟩
 ·simp[Value.cells] at gw;obtain⟨rfl,rfl,rfl⟩:=gw;exact .inl ⟨rfl,rfl,rfl⟩
 ·simp[Value.cells] at gw;obtain⟨rfl,rfl,rfl⟩:=gw;refine .inr ⟨x,rfl,hl,hm,λi hi=>?_⟩;have h1:=J5 i hi;rw[List.getElem?_eq_getElem (by omega),ce,Option.bind_eq_some_iff] at h1;obtain⟨cs',RW,hy⟩:=h1;obtain⟨_,Wl,fl⟩:=World.cells?_some RW;obtain⟨xs,k,_,_,_,Sg,Sr⟩:=DataW.trod_struct he hy
  match xs,Sg,cs',Wl with
  |[y0,y1,y2],_,[v0,v1,v2],_=>
   have g0:=Sr 0 f0 rfl;have g1:=Sr 1 f1 rfl;have g2:=Sr 2 f2 rfl;simp[o0,o1,o2,c0,c1,c2] at g0 g1 g2;have e0:=fl 0 (by omega);have e1:=fl 1 (by omega);have e2:=fl 2 (by omega);obtain⟨kd,k1,_,k3⟩:=DataW.trod_int u0 g0;obtain⟨lb,k2,_⟩:=DataW.trod_bool u1 g1;obtain⟨a1,l1,q1,z1,k4,k5⟩:=xc u2 hb rf g2;simp at k1 k2;subst k1 k2 k4;have ez:(x.add (i*3)).add 0=x.add (i*3):=by unfold Addr.add;split<;>simp_all
   rw[ez] at e0;exact⟨kd,lb,a1,l1,q1,z1,by simpa using e0,by simpa using e1,by simpa using e2,k5,k3⟩
theorem Wm {w:aw}{a:bW}{len cap:Nat}(h:I0 w a len cap)(hl:0<len):∃b off,a=some ⟨b,off,none⟩∧b<w.heap.size∧∀i,i<len→∃(kd:Int) (lb:Bool) (a1:bW) (l1 c1:Nat) (z1:List Int),
  w.cell? ⟨b,off+i*3,none⟩=some (.int .i64 kd)∧w.cell? ⟨b,off+i*3+1,none⟩=some (.bool lb)∧w.cell? ⟨b,off+i*3+2,none⟩=some (.slice a1 l1 c1)∧xI .u8 w a1 l1 c1 z1:=by
 rcases h with⟨_,h0,_⟩|⟨x,rfl,ig,m7,hc⟩
 ·omega
 ·obtain⟨b,off,spot⟩:=x;obtain⟨_,_,_,_,_,_,kt,_⟩:=hc 0 hl;have Tu:spot=none:=by simpa[Addr.add] using World.cell?_spot kt
  subst Tu;refine⟨b,off,rfl,?_,λi hi=>?_⟩
  ·rcases Nat.lt_or_ge b w.heap.size with h'|h'
   ·exact h'
   ·simp[World.cell?,Addr.add,Array.getElem?_eq_none h'] at kt
  ·obtain⟨kd,lb,a1,l1,c1,z1,h0,h1,h2,r1,_⟩:=hc i hi;simp only[addr_add] at h0 h1 h2;exact⟨kd,lb,a1,l1,c1,z1,h0,h1,h2,r1⟩
end
end Go.Proofs.YtkdpblbhcfhagaaGreatDoor
namespace Go.Proofs.YtkdpblbhcfhagaaGreatDoor.noiseTells
open Go.Proofs.Tryz
open _root_.Nat renaming le_refl → di, le_trans → kx, lt_of_lt_of_le → tV
open Go.RowKit.Below renaming refl → bZ, heap_alloc → jE
open Go.World renaming size_alloc → fx
open _root_.Array renaming getElem?_eq_some_iff → gD
open Go renaming undef → ag, World → aw, heap_alloc_new → eC
open _root_.List renaming replicate → cz, not_mem_nil → nj, mem_cons → mg, take_of_length_le → su
open Go.Exit renaming inBlock → nu
set_option maxHeartbeats 64000000
open Go.ChangeShapes Go.WideShapes Go.ChangeAt Go.RowKit
set_option linter.unusedVariables false
set_option maxRecDepth 100000
theorem walk (a0:bW)(PS Fa:Nat)(z0:List Int)(l1 l2 l3 l4:aO)(a5:bW)(GN Xd:Nat)(w:aw)(w0:xI .u8 w a0 PS Fa z0)(w1:l1.length=32)(w2:l2.length=32)(w3:l3.length=32)(w4:l4.length=32)(w5:I0 w a5 GN Xd)(aa7:ke w∧tE w):
  Calls prog 3 #[.slice a0 PS Fa,.agg (l1.map bv).toArray,.agg (l2.map bv).toArray,.agg (l3.map bv).toArray,.agg (l4.map bv).toArray,.slice a5 GN Xd] w λe w'=>e= .returned (.bool true)∧Below w.heap.size w w':=by
 have PQ:=Lv w0;obtain⟨P,np,ajs,ajn,ajt,aju,aa8,xU⟩:=OW w0 50;have au6:(if(50:Int)<(PS:Int) then(50:Int) else(PS:Int))=(np:Int):=ajs;have HP:=aj xU;have HR:=aj w5;have HT:ae (TT w):=aa7;have hI:ae (∀l:aO,l.length=32→(prog.info? 24).map (·.size)=some (l.map bv).toArray.size):=λl hl=>wR hl;have gC:ae (Vw w ((((w.alloc (.cells (l1.map bv).toArray 24)).alloc (.cells (l2.map bv).toArray 24)).alloc (.cells (l3.map bv).toArray 24)).alloc (.cells (l4.map bv).toArray 24)) [(w.heap.size,24,l1.map bv),(w.heap.size+1,24,l2.map bv),(w.heap.size+1+1,24,l3.map bv),(w.heap.size+1+1+1,24,l4.map bv)]):=by have h:=((((Vw.none w).alloc 24 (l1.map bv)).alloc 24 (l2.map bv)).alloc 24 (l3.map bv)).alloc 24 (l4.map bv);simp only[fx] at h;exact h
 clear ajs xU w0 w5 aa7
 go_enter func3,ntmps3
 go_wp2_with fail
 obtain⟨V0,hV0⟩:∃V,((((w.alloc (.cells (l1.map bv).toArray 24)).alloc (.cells (l2.map bv).toArray 24)).alloc (.cells (l3.map bv).toArray 24)).alloc (.cells (l4.map bv).toArray 24))=V:=⟨_,rfl⟩;rw[hV0] at gC;rw[hV0];clear hV0;refine(IY V0 (HT.o.later gC.o.aY)).mono ?_;rintro e V1 ⟨rfl,hb⟩;have JZ:=aj (gC.o.later hb);clear hb gC;have K2:ae (V1.heap[w.heap.size+1]?=some (.cells (l2.map bv).toArray 24 (0,0))):=JZ.o.cell (w.heap.size+1,24,l2.map bv) (by simp)
 go_wp2_with (first|refine wpList_load_row rfl 24 (.tmp 8) rfl (w.heap.size+1) rfl 24 (l2.map bv).toArray (0,0) _ K2.out underlying24 rfl (hI.out l2 w2) ?_|fail)
 refine(oz l2 V1 w2 (HT.o.later JZ.o.aY).2).mono ?_;rintro e V2 ⟨rfl,hb⟩;have wA:=eI l2;obtain⟨R,hR⟩:=aW (bN l2);have UU:zA 32 (mX (fC (fc l2)) 9)=R:=hR;rw[hR] at wA;rw[UU];have Jj:=aj (JZ.o.later hb);clear hb hR UU JZ K2;have xA:=cJ V2 24 R 32 wA (by kernel_rfl) eY (by kernel_rfl);simp only[eY,cz] at xA;have hV3:=Jj.o.alloc 24 (R.map bv);have hlR:(R.map bv).length=32:=by simp[wA]
 obtain⟨p,hp⟩:=aW (V2.heap.size);have hpn:w.heap.size+1+1+1<p:=by rw[←hp];exact Jj.o.vr.lt (w.heap.size+1+1+1,24,l4.map bv) (by simp)
 obtain⟨V3,ajv⟩:∃V,V2.alloc (.cells (R.map bv).toArray 24)=V:=⟨_,rfl⟩;rw[ajv,hp] at xA hV3;have OP:ae (Vw w V3 [(w.heap.size,24,l1.map bv),(w.heap.size+1,24,l2.map bv),(w.heap.size+1+1,24,l3.map bv),(w.heap.size+1+1+1,24,l4.map bv),(p,24,R.map bv)]):=hV3;have WA:=aj hpn;have K1:ae (V3.heap[w.heap.size]?=some (.cells (l1.map bv).toArray 24 (0,0))):=OP.o.cell (w.heap.size,24,l1.map bv) (by simp);have K3:ae (V3.heap[w.heap.size+1+1]?=some (.cells (l3.map bv).toArray 24 (0,0))):=OP.o.cell (w.heap.size+1+1,24,l3.map bv) (by simp);have KR:ae (V3.heap[p]?=some (.cells (R.map bv).toArray 24 (0,0))):=OP.o.cell (p,24,R.map bv) (by simp);clear hV3 Jj hpn
 go_wp2_with (first|refine wpList_load_row rfl 24 (.tmp 7) rfl (w.heap.size) rfl 24 (l1.map bv).toArray (0,0) _ K1.out underlying24 rfl (hI.out l1 w1) ?_|refine wpList_load_row rfl 24 (.tmp 14) rfl (p) rfl 24 (R.map bv).toArray (0,0) _ KR.out underlying24 rfl (hI.out R wA) ?_|refine wpList_load_row rfl 24 (.tmp 9) rfl (w.heap.size+1+1) rfl 24 (l3.map bv).toArray (0,0) _ K3.out underlying24 rfl (hI.out l3 w3) ?_|fail)
 clear xA hp ajv;refine(Et a0 np Fa P l1 R l3 V3 w1 w3 wA (HP.o.later OP.o.aY) PQ (by omega) (kx ajt aju) aa8 (HT.o.later OP.o.aY)).mono ?_;rintro e V4 ⟨ga,rfl,hga,hb,hA⟩;have YB:=aj (OP.o.later hb);have HA:=aj hA;have WZ:ae (p<ga):=tV (OP.o.vr.lt (p,24,R.map bv) (by simp)) hga;have K2:ae (V4.heap[w.heap.size+1]?=some (.cells (l2.map bv).toArray 24 (0,0))):=YB.o.cell (w.heap.size+1,24,l2.map bv) (by simp);have K4:ae (V4.heap[w.heap.size+1+1+1]?=some (.cells (l4.map bv).toArray 24 (0,0))):=YB.o.cell (w.heap.size+1+1+1,24,l4.map bv) (by simp);clear hb hA hga OP K1 K3 KR
 go_wp2_with (first|refine wpList_load_row rfl 24 (.tmp 8) rfl (w.heap.size+1) rfl 24 (l2.map bv).toArray (0,0) _ K2.out underlying24 rfl (hI.out l2 w2) ?_|refine wpList_load_row rfl 24 (.tmp 10) rfl (w.heap.size+1+1+1) rfl 24 (l4.map bv).toArray (0,0) _ K4.out underlying24 rfl (hI.out l4 w4) ?_|fail)
 refine(BF a0 np Fa P l2 l4 V4 w2 w4 (HP.o.later YB.o.aY) PQ (by omega) (kx ajt aju) aa8 (HT.o.later YB.o.aY)).mono ?_;rintro e V5 ⟨gb,rfl,hgb,hb,hBd⟩;have HGB:ae (ga<gb∧gb<V5.heap.size):=⟨tV HA.o.lt hgb,hBd.lt⟩;obtain⟨W,hW⟩:=aW (V5.drew);have cL:Below V5.heap.size V5 W:=by rw[←hW];exact gl
 have pd:=aj hW;have Sx:=aj ((YB.o.later hb).later cL);have Yo:=aj ((HA.o.later hb).later cL);have gx:=aj (hBd.later cL);have HGW:ae (V5.heap.size≤W.heap.size):=cL.size;clear hb hBd hgb cL hW HA YB K2 K4
 go_wp2_with fail
 refine ah (G:=bM) (by kernel_rfl) bM.refl bM.trans (by kernel_rfl) [(0,true),(1,true),(2,true),(3,true),(4,false),(5,true)] rfl (by kernel_rfl) ?_;intro KK cA;rw[pd.o]
 iterate 4 (refine aa rfl (by rfl) (v:=?_) ?_ ?_;rotate_left;(intro w' hw';clear hw';go_simp;with_reducible rfl);go_simp)
 refine aU (f:=8) (args:=#[.slice a0 np Fa,.slice (some ⟨w.heap.size,0,none⟩) 32 32,.slice (some ⟨p,0,none⟩) 32 32,.slice (some ⟨w.heap.size+1+1,0,none⟩) 32 32]) rfl (by rfl) (by go_simp) ?_;refine(x5 (λz=>z=ga∨z=gb) a0 np Fa P (w.heap.size) 0 32 l1 p 0 32 R (w.heap.size+1+1) 0 32 l3 W (λz hz=>by have h1:=HGB.o;have h2:=HGW.o;omega) ⟨by have h1:=HGB.o;have h2:=WZ.o;have h3:=WA.o;omega,by have h1:=HGB.o;have h2:=WZ.o;have h3:=WA.o;omega,by have h1:=HGB.o;have h2:=WZ.o;have h3:=WA.o;omega⟩ (HP.o.later Sx.o.aY) PQ (by omega) ((show dz W _ 24 l1 from Sx.o.cell (w.heap.size,24,l1.map bv) (by simp)).nw 32 w1) ((show dz W _ 24 R from Sx.o.cell (p,24,R.map bv) (by simp)).nw 32 wA) ((show dz W _ 24 l3 from Sx.o.cell (w.heap.size+1+1,24,l3.map bv) (by simp)).nw 32 w3)).mono ?_;rintro e V6 ⟨gp,mp,rfl,hgp,hmp,hb,OA⟩;refine⟨_,rfl,hb,?_⟩;obtain⟨V7,hV7⟩:∃V,V6.drew=V:=⟨_,rfl⟩;have cL:Below V6.heap.size V6 V7:=by rw[←hV7];exact gl
 have ajw:=aj hV7;have R7:=aj ((Sx.o.later hb).later cL);have I8:=aj ((Yo.o.later hb).later cL);have Cn:=aj ((gx.o.later hb).later cL);have HN7:=aj (OA.later cL);have Wx:ae (gb<gp∧gb<mp∧V6.heap.size≤V7.heap.size):=⟨by have h1:=gx.o.lt;omega,by have h1:=gx.o.lt;omega,cL.size⟩;clear hb OA hgp hmp cL hV7 Sx Yo gx pd HGW;go_simp
 iterate 1 (refine aa rfl (by rfl) (v:=?_) ?_ ?_;rotate_left;(intro w' hw';clear hw';go_simp;with_reducible rfl);go_simp)
 refine az cA ?_;clear cA
 go_wp2_with fail
 refine ah (G:=bM) (by kernel_rfl) bM.refl bM.trans (by kernel_rfl) [(0,true),(1,true),(2,true),(3,false),(4,true)] rfl (by kernel_rfl) ?_;intro KK cA;rw[ajw.o]
 iterate 3 (refine aa rfl (by rfl) (v:=?_) ?_ ?_;rotate_left;(intro w' hw';clear hw';go_simp;with_reducible rfl);go_simp)
 refine aU (f:=9) (args:=#[.slice a0 np Fa,.slice (some ⟨w.heap.size+1,0,none⟩) 32 32,.slice (some ⟨w.heap.size+1+1+1,0,none⟩) 32 32]) rfl (by rfl) (by go_simp) ?_;refine(EN (λz=>z=ga∨z=gb∨z=gp∨z=mp) a0 np Fa P (w.heap.size+1) 0 32 l2 (w.heap.size+1+1+1) 0 32 l4 V7 (λz hz=>by have h1:=I8.o.lt;have h2:=Cn.o.lt;have h3:=HN7.o.lt;have h4:=HN7.o.mx.lt;omega) ⟨by have h1:=HGB.o;have h2:=WZ.o;have h3:=WA.o;have h4:=Wx.o;omega,by have h1:=HGB.o;have h2:=WZ.o;have h3:=WA.o;have h4:=Wx.o;omega⟩ (HP.o.later R7.o.aY) PQ (by omega) ((show dz V7 _ 24 l2 from R7.o.cell (w.heap.size+1,24,l2.map bv) (by simp)).nw 32 w2) ((show dz V7 _ 24 l4 from R7.o.cell (w.heap.size+1+1+1,24,l4.map bv) (by simp)).nw 32 w4)).mono ?_;rintro e V8 ⟨gq,mq,sbq,rfl,hgq,hmq,hb,hRQ⟩;refine⟨_,rfl,hb,?_⟩;have hpx:=((Am.of HN7.o).more (X':=yX.xa ⟨ga,gb,gp,mp,gq,mq⟩) (λz hz=>by
  rcases hz with h|h|h|h
  ·exact .inl (.inl h)
  ·exact .inl (.inr h)
  ·exact .inr (by rw[h];exact hgq)
  ·exact .inr (by rw[h];exact hmq))).later hb
 have hqx:=(Am.of hRQ).more (X':=(yX.swap ⟨ga,gb,gp,mp,gq,mq⟩).xa) (λz hz=>by
  rcases hz with h|h|h|h
  ·exact .inl (.inr (.inl h))
  ·exact .inl (.inl h)
  ·exact .inl (.inr (.inr (.inl h)))
  ·exact .inl (.inr (.inr (.inr h))))
 have HD:ae (Tw w V8 ⟨ga,gb,gp,mp,gq,mq⟩ (NS.jn aZ P l1 R l3) (NS.jn aZ P l1 R l3) (NS.answer aZ P l2 l4)):=by
  have h1:=HGB.o;have h2:=WZ.o;have h3:=WA.o;have h4:=Wx.o;have h5:=HN7.o.hm;have h6:=HN7.o.lt;have h7:=HN7.o.mx.lt;have h8:=Cn.o.lt;refine⟨R7.o.aY.trans (hb.mono R7.o.aY.size),λz hz=>?_,⟨⟨?_,?_,?_,?_,?_⟩,⟨?_,?_,?_,?_⟩,?_,?_,?_,?_⟩,I8.o.later hb,Cn.o.later hb,hpx,hqx,HT.o,(λh=>absurd (show true=false from h) (by decide)),(λ_ h=>absurd (show(0:Nat)=1 from h) (by decide))⟩
  ·have h9:=hz;unfold yX.off at h9;dsimp only at h9;omega
  all_goals
   dsimp only;omega
 clear hb hRQ hgq hmq hpx hqx R7 I8 Cn HN7 Wx HGB WZ WA HP ajw;go_simp
 iterate 1 (refine aa rfl (by rfl) (v:=?_) ?_ ?_;rotate_left;(intro w' hw';clear hw';go_simp;with_reducible rfl);go_simp)
 refine az cA ?_;clear cA;have iz:Below V8.heap.size V8 (V8.alloc (.cells #[] 5)):=eF;obtain⟨s,hs⟩:=aW ((⟨ga,gb,gp,mp,gq,mq⟩:yX):yX);have sB:ae (TD w (V8.alloc (.cells #[] 5)) s (some ⟨V8.heap.size,0,none⟩) 0 0 (200+96*0)):=by rw[←hs];exact⟨_,_,[],HD.o.later iz,⟨rfl,.inl rfl⟩,(λe=>by cases e),di _,(by unfold maxLen;omega),(by omega),λh=>by omega⟩
 obtain⟨rfl,rfl,rfl,rfl,hsr⟩:ga=s.ga∧gb=s.gb∧gp=s.ha∧gq=s.hb∧True:=by rw[←hs];exact⟨rfl,rfl,rfl,rfl,trivial⟩
 clear iz HD hs hsr
 go_wp2_with fail
 go_loopg [19,20] 5 (λg s19 s20 wr=>∃(k:Nat) (a:bW) (l c:Nat),k≤5∧g=5-k∧s19= .slice a l c∧s20= .int .i64 (k:Int)∧ae (TD w wr s a l c (200+96*k)))
 case atStart=>exact⟨0,_,0,0,by omega,rfl,rfl,rfl,sB⟩
 case round=>
  clear sB;obtain⟨k,a,l,c,hk,rfl,rfl,rfl,pY⟩:=hrel
  by_cases hc:k<GN∧k<5
  ·obtain⟨gi,jM⟩:=hc;have i1:(k:Int)<(GN:Int):=by omega
   have i2:(k:Int)<5:=by omega
   obtain⟨q,hq,Ag⟩:∃q:Nat,(k:Int).tmod 2=(q:Int)∧(q=0∨q=1):=⟨k % 2,by rw[Int.tmod_eq_emod_of_nonneg (by omega)];omega,by omega⟩
   go_upto_if 83 with fail
   go_cut [21,22] from 69 to 251 (λs21 s22 wx=>wr=wx∧∃s':yX,s21= .pointer (some ⟨s'.ga,0,none⟩)∧s22= .pointer (some ⟨s'.ha,0,none⟩)∧ae (TD w wr s' a l c (200+96*k))∧ae (∀W' a' l' c' n',TD w W' s' a' l' c' n'→TD w W' s a' l' c' n'))
   case first=>
    rcases Ag with rfl|rfl
    ·go_wp2_with fail
     go_meet
     exact⟨rfl,s,rfl,rfl,pY,λ_ _ _ _ _ h=>h⟩
    ·go_wp2_with fail
     go_meet
     exact⟨rfl,s.swap,rfl,rfl,pY.o.swap,λ_ _ _ _ _ h=>h.swap⟩
   case rest=>
    obtain⟨rfl,s',rfl,rfl,vI,HB⟩:=hcut;clear pY hq Ag;obtain⟨b,off,rfl,hbw,Wn⟩:=Wm HR.o (by omega);obtain⟨kd,lb,ai,li,ci,z1,ve,jF,iJ,bh⟩:=Wn k gi;have hnB:=Lv bh;obtain⟨B,nd,ajx,rb,xi,hdc,Wy,Jc⟩:=OW bh 200;have hdE:(if(200:Int)<(li:Int) then(200:Int) else(li:Int))=(nd:Int):=ajx;obtain⟨x,y,L,hD0,WE⟩:=vI.o;obtain⟨W,hW⟩:=aW (wr.drew);have cL:Below wr.heap.size wr W:=by rw[←hW];exact gl
    have pd:=aj hW;have HD:=aj (hD0.later cL);have HL:=aj (WE.later cL);have fl:∀W',Below w.heap.size w W'→∀i v,w.cell? ⟨b,i,none⟩=some v→W'.cell? ⟨b,i,none⟩=some v:=λW' hW' i v h=>by rw[World.cell?_of_block (hW'.block b hbw)];exact h
    have HcW:ae (∀w',bM W w'→w'.cell? ⟨b,off+k*3+2,none⟩=some (.slice ai li ci)):=λw' hw'=>fl w' (HD.o.aY.trans (hw'.mono HD.o.aY.size)) _ _ iJ;have v0:W.cell? ⟨b,off+k*3,none⟩=some (.int .i64 kd):=fl W HD.o.aY _ _ ve;have v1:W.cell? ⟨b,off+k*3+1,none⟩=some (.bool lb):=fl W HD.o.aY _ _ jF;have e1:(nd:Int)≤(ci:Int):=by omega
    have aot:ci≤9223372036854775807:=by unfold maxLen at Wy;exact Wy
    have Hd0:ae (Dr W s' ai nd ci B (200+96*k)):=⟨Jc.later HD.o.aY,hnB,by omega,Wy,by omega,λh0 y o f e=>yX.new HD.o (.inr (by
     obtain⟨b',o',e',_⟩:=Jc.at_ 0 h0;have rN:=Jc;rw[e'] at e rN;cases e
     exact rN.lt h0))⟩
    clear ajx Jc ve jF iJ Wn bh hW cL hD0 WE fl vI xi hdc Wy
    go_wp2_with fail
    refine ah (G:=bM) (by kernel_rfl) bM.refl bM.trans (by kernel_rfl) [(0,true),(1,true),(2,true),(3,true),(4,true),(5,true),(6,true),(7,true),(8,true),(9,true),(10,true),(11,true),(12,true),(13,true)] rfl (by kernel_rfl) ?_;intro KK cA;rw[pd.o]
    iterate 14 (refine aa rfl (by rfl) (v:=?_) ?_ ?_;rotate_left;(intro w' hw';have q1:=HcW.o w' hw';clear hw';go_simp;with_reducible rfl);go_simp)
    refine az cA ?_;clear cA HcW pd
    go_upto_if 103 with fail
    go_cut [23] from 69 to 251 (λs23 wx=>W=wx∧∃(ad:bW) (ld cd:Nat) (B:aO),s23= .slice ad ld cd∧ae (Dr W s' ad ld cd B (200+96*k)))
    case first=>
     cases lb
     ·go_wp2_with fail
      go_meet
      exact⟨rfl,_,_,_,_,rfl,Hd0⟩
     ·go_wp2_with fail
      go_meet
      exact⟨rfl,_,_,_,_,rfl,HL⟩
    case rest=>
     clear Hd0 B;obtain⟨rfl,ad,ld,cd,B,rfl,Hd⟩:=hcut;have MO:=Hd.o.ln;clear v1 hdE e1 aot
     go_upto_block 2 with fail
     go_cut [24,25,26,27] from 69 to 251 (λs24 s25 s26 s27 wx=>∃(am:bW) (lm cm:Nat) (an:bW) (ln cn er:Nat),s24= .slice am lm cm∧s25= .slice an ln cn∧s26= .int .i64 (er:Int)∧s27= .int .i64 (er:Int)∧ae (TM w wx s' am lm cm an ln cn a l c (200+96*k)))
     case first=>
      clear v0
      by_cases k0:kd=0
      ·subst k0
       as_aux_lemma=>
        go_wp2_with fail
        refine(yH s'.ga _ ad ld cd B W HD.o.a Hd.o.b Hd.o.nl (by omega) Hd.o.lc Hd.o.cm Hd.o.lt HD.o.tab HD.o.ka).mono ?_;intro e W1 hE;obtain⟨am,lm,cm,rfl,sT,vg,rb,sC⟩:=HD.o.goA HL.o Hd.o hE (abf _ _);have ru:=aj sT;have Wo:=aj vg;have yK:=aj rb;have Im:=aj sC;clear hE sT vg rb sC
        go_wp2_with fail
        refine(aek s'.ha s'.ma s'.xa _ ad ld cd B W1 ru.o.p ru.o.hX yK.o.b yK.o.nl (by omega) yK.o.lc yK.o.cm (λh0 y o f e=>⟨(yK.o.ap h0 y o f e).2.2.1,(yK.o.ap h0 y o f e).2.2.2.1⟩)).mono ?_;intro e W2 hF;obtain⟨an,ln,cn,rfl,hM⟩:=ru.o.goB Wo.o Im.o hF rfl (Ou _ _);have HM:=aj hM;clear hF hM ru Wo yK Im
        go_wp2_with fail
        go_meet
        exact⟨_,_,_,_,_,_,_,rfl,rfl,rfl,rfl,HM⟩
      ·by_cases k1:kd=1
       ·subst k1
        as_aux_lemma=>
         go_wp2_with fail
         refine(GD s'.ga _ ad ld cd B W HD.o.a Hd.o.b Hd.o.nl (by omega) Hd.o.lc Hd.o.cm Hd.o.lt HD.o.tab HD.o.ka).mono ?_;intro e W1 hE;obtain⟨am,lm,cm,rfl,sT,vg,rb,sC⟩:=HD.o.goA HL.o Hd.o hE (ZG _ _);have ru:=aj sT;have Wo:=aj vg;have yK:=aj rb;have Im:=aj sC;clear hE sT vg rb sC
         go_wp2_with fail
         refine(aja s'.ha s'.ma s'.xa _ ad ld cd B W1 ru.o.p ru.o.hX yK.o.b yK.o.nl (by omega) yK.o.lc yK.o.cm (λh0 y o f e=>⟨(yK.o.ap h0 y o f e).2.2.1,(yK.o.ap h0 y o f e).2.2.2.1⟩)).mono ?_;intro e W2 hF;obtain⟨an,ln,cn,rfl,hM⟩:=ru.o.goB Wo.o Im.o hF rfl (RR _ _);have HM:=aj hM;clear hF hM ru Wo yK Im
         go_wp2_with fail
         go_meet
         exact⟨_,_,_,_,_,_,_,rfl,rfl,rfl,rfl,HM⟩
       ·by_cases k2:kd=2
        ·subst k2
         as_aux_lemma=>
          go_wp2_with fail
          refine(BG s'.ga _ ad ld cd B W HD.o.a Hd.o.b Hd.o.nl (by omega) Hd.o.lc Hd.o.cm Hd.o.lt HD.o.tab HD.o.ka).mono ?_;intro e W1 hE;obtain⟨am,lm,cm,rfl,sT,vg,rb,sC⟩:=HD.o.goA HL.o Hd.o hE (RT _ _);have ru:=aj sT;have Wo:=aj vg;have yK:=aj rb;have Im:=aj sC;clear hE sT vg rb sC
          go_wp2_with fail
          refine(ZF s'.ha s'.ma s'.xa _ ad ld cd B W1 ru.o.p HD.o.rx ru.o.hX yK.o.b yK.o.nl (by omega) yK.o.lc yK.o.cm (λh0 y o f e=>⟨(yK.o.ap h0 y o f e).2.2.1,(yK.o.ap h0 y o f e).2.2.2.1⟩)).mono ?_;intro e W2 hF;obtain⟨an,ln,cn,rfl,hM⟩:=ru.o.goB Wo.o Im.o hF rfl (LJ _ _);have HM:=aj hM;clear hF hM ru Wo yK Im
          go_wp2_with fail
          go_meet
          exact⟨_,_,_,_,_,_,_,rfl,rfl,rfl,rfl,HM⟩
        ·skip
         as_aux_lemma=>
          go_wp2_with fail
          refine(GF s'.ga _ ad ld cd B W HD.o.a Hd.o.b Hd.o.nl (by omega) Hd.o.lc Hd.o.cm Hd.o.lt HD.o.tab HD.o.ka).mono ?_;intro e W1 hE;obtain⟨am,lm,cm,rfl,sT,vg,rb,sC⟩:=HD.o.goA HL.o Hd.o hE (ZH _ _);have ru:=aj sT;have Wo:=aj vg;have yK:=aj rb;have Im:=aj sC;clear hE sT vg rb sC
          go_wp2_with fail
          refine(ajb s'.ha s'.ma s'.xa _ ad ld cd B W1 ru.o.p ru.o.hX yK.o.b yK.o.nl (by omega) yK.o.lc yK.o.cm (λh0 y o f e=>⟨(yK.o.ap h0 y o f e).2.2.1,(yK.o.ap h0 y o f e).2.2.2.1⟩)).mono ?_;intro e W2 hF;obtain⟨an,ln,cn,rfl,hM⟩:=ru.o.goB Wo.o Im.o hF rfl (RS _ _);have HM:=aj hM;clear hF hM ru Wo yK Im
          go_wp2_with fail
          go_meet
          exact⟨_,_,_,_,_,_,_,rfl,rfl,rfl,rfl,HM⟩
     case rest=>
      obtain⟨am,lm,cm,an,ln,cn,er,rfl,rfl,rfl,rfl,HM⟩:=hcut;clear v0 HD HL Hd MO;obtain⟨x2,y2,L2,O,xj,hL2,nO,tL⟩:=HM.o;have HD:=aj xj;have HL:=aj hL2;have Hm:=aj nO;have q1:=eG wc am lm cm O nO.b;have q2:=eG wc an ln cn O tL;have q3:=Ba O O;clear xj hL2 nO tL HM
      go_upto_if 176 with fail
      clear q1 q2 q3;obtain⟨W3,rfl⟩:∃W,W=wc:=⟨_,rfl⟩
      go_cut [19] from 69 to 251 (λs19 wx=>W3=wx∧∃(a':bW) (l' c':Nat) (L':aO),s19= .slice a' l' c'∧ae (Dr W3 s' a' l' c' L' (200+96*k+96)))
      case first=>
       by_cases h0:0<lm
       ·have i0:(0:Int)<(lm:Int):=by omega
        go_wp2_with fail
        go_meet
        exact⟨rfl,_,_,_,_,rfl,Hm⟩
       ·have i0:¬(0:Int)<(lm:Int):=by omega
        go_wp2_with fail
        go_meet
        exact⟨rfl,_,_,_,_,rfl,HL.o.mono (by omega)⟩
      case rest=>
       clear HL Hm;obtain⟨rfl,a',l',c',L',rfl,HL⟩:=hcut
       go_wp2_with fail
       refine(Eu s'.ga x2 W3 HD.o.a).mono ?_;rintro e W4 ⟨rfl,js,T6⟩;obtain⟨SS,hSS⟩:∃S9,x2.S=S9:=⟨_,rfl⟩;rw[hSS] at T6⊢;have Zn:=aj hSS;have xA:=cJ W4 24 SS 32 T6 (by kernel_rfl) eY (by kernel_rfl);simp only[eY,cz] at xA;have hlS:(SS.map bv).length=32:=by simp[T6]
       have hA:=dz.new W4 24 SS;have iz:Below W4.heap.size W4 (W4.alloc (.cells (SS.map bv).toArray 24)):=eF;obtain⟨kb,I7⟩:∃p,W4.heap.size=p:=⟨_,rfl⟩;obtain⟨W5,xo⟩:∃V,W4.alloc (.cells (SS.map bv).toArray 24)=V:=⟨_,rfl⟩;rw[xo,I7] at xA hA;have Ov:=aj ((HD.o.later js).later (xo▸iz));have HL5:=aj ((HL.o.later js).later (xo▸iz));have HK5:=aj hA;clear hSS hA iz js HD HL
       go_wp2_with fail
       clear xA hlS I7 xo
       by_cases h2:x2.st=2
       ·as_aux_lemma=>
         refine(AW s'.ga x2 W5 Ov.o.a Ov.o.tab h2).mono ?_;rintro e W6 ⟨rfl,lZ⟩;have k1:=Ac x2;have k2:=Ad x2;have kH:x2.M.H.length=32:=by obtain⟨sx,hsx⟩:=Ov.o.a;exact hsx.sd.mi.h
         obtain⟨D1,sT⟩:∃D,NS.wU x2=D:=⟨_,rfl⟩;obtain⟨D2,xj⟩:∃D,NS.wV x2=D:=⟨_,rfl⟩;obtain⟨H,hH⟩:=aW (x2.M.H);rw[sT] at k1⊢;rw[xj] at k2⊢;rw[hH] at kH⊢;have sV:=aj (And.intro sT (And.intro xj hH));obtain⟨X1,X2,X3,s1,s2,s3,gi,jM,Cj,rV⟩:=ET W6 D1 D2 H k1 k2 kH;simp only[zo,eY,cz] at s1;have vg:(dM D1 true 0).length=34:=by rw[dK,k1]
         have Au:(dM D2 true 0).length=34:=by rw[dK,k2]
         have hlH:(H.map bv).length=32:=by simp[kH]
         obtain⟨u,hu⟩:∃p,W6.heap.size=p:=⟨_,rfl⟩;rw[hu] at s1 s2 s3 gi jM Cj;have HDX:=aj ((Ov.o.later lZ).later rV);have HLX:=aj ((HL5.o.later lZ).later rV);have HKX:=aj ((HK5.o.later lZ).later rV);have B5:=aj gi;have vR:=aj jM;have Jg:=aj Cj;clear gi jM Cj rV lZ Ov HL5 HK5 sT xj hH
         go_wp2_with fail
         clear s1 s2 s3 hu vg Au hlH;obtain⟨R9,Cf,m9,ob,oo,oc,nb,no,nc,ra,rl,rc,sb,so,sc,OA⟩:=HDX.o.p;refine(IJ s'.ha s'.ma s'.xa _ m9 ob oo oc nb no nc ra rl rc sb so sc X3 OA h2).mono ?_;rintro e W7 ⟨yi,vb,o1,c1,o2,c2,rfl,pz,rN⟩;replace pz:bj W7 (some ⟨vb,o1,none⟩) 32 D1:=by rw[←sV.o.1];exact pz
         replace rN:bj W7 (some ⟨vb,o2,none⟩) 32 D2:=by rw[←sV.o.2.1];exact rN
         obtain⟨Y1,Y2,s4,s5,BR,zp,Ox⟩:=GL W7 (jv vb o1 c1) (jv vb o2 c2) rfl rfl (rZ vb o1 c1) (rZ vb o2 c2);have OO:(jv vb o1 c1).length=3:=rfl;have Be:(jv vb o2 c2).length=3:=rfl;have ik:=yi.trans (Ox.mono yi.size);obtain⟨v,hv⟩:∃p,W7.heap.size=p:=⟨_,rfl⟩;rw[hv] at s4 s5 BR zp;have hm9:m9=x2.M:=OA.mm (by have:x2.st=2:=h2;show x2.st≠9;omega);obtain⟨cb,co,cc,hb,ho,MG,kb',ko,kc',vO,_⟩:=(OA.later ik).mx;rw[hm9,sV.o.2.2] at vO;have HF:ae (Oy Y2 kb u v s'.ha SS D1 D2 H true (.slice (some ⟨vb,o1,none⟩) 32 c1) (.slice (some ⟨vb,o2,none⟩) 32 c2) sb so sc):=
          ⟨HKX.o.later ik,T6,B5.o.later ik,vR.o.later ik,Jg.o.later ik,kH,dB BR rfl,dB zp rfl,(OA.later ik).cells.2.2.2.2.1,Zn.o▸(OA.later ik).ss⟩
         have HM:ae (GM Y2 u s'.ha s'.ma hb ho MG H):=⟨Jg.o.later ik,kH,(OA.later ik).cells.1,dB vO.row rfl,vO.hB⟩;have PJ:=aj (pz.later Ox);have WY:=aj (rN.later Ox);have OB:=aj (HDX.o.later ik);have OC:=aj (HLX.o.later ik);clear yi BR zp Ox ik OA Cf HKX B5 vR Jg HDX HLX Zn pz rN hm9 vO sV
         go_wp2_with fail
         clear s4 s5 hv OO Be;obtain⟨U,hUd⟩:=aW (Y2.drew);have Gw:Below Y2.heap.size Y2 U:=by rw[←hUd];exact gl
         have HUd:=aj hUd;replace HF:=aj (HF.o.later Gw);replace HM:=aj (HM.o.later Gw);replace PJ:=aj (PJ.o.later Gw);replace WY:=aj (WY.o.later Gw);replace OB:=aj (OB.o.later Gw);replace OC:=aj (OC.o.later Gw);have z1:=Ba SS SS;have z2:=Ba H H;clear hUd Gw;refine ah (G:=bM) (by kernel_rfl) bM.refl bM.trans (by kernel_rfl) [(0,true),(1,true),(2,true),(3,true),(4,true),(5,true),(6,true),(7,true),(8,true),(9,true),(10,true),(11,true),(12,true),(13,true),(14,true),(15,true),(16,true),(17,true),(18,true),(19,true),(20,true),(21,true),(22,true),(23,true),(24,true),(25,true),(26,true),(27,true),(28,true),(29,true),(30,true),(31,true),(32,false),(33,true),(34,true),(35,true),(36,true),(37,true),(38,true),(39,true),(40,false),(41,true),(42,true),(43,true),(44,true),(45,true),(46,true),(47,true),(48,true),(49,true),(50,true),(51,true),(52,true),(53,true),(54,true),(55,true),(56,true),(57,true),(58,true)] rfl (by kernel_rfl) ?_;intro KK cA;rw[HUd.o];clear HUd
         iterate 18 (refine aa rfl (by rfl) (v:=?_) ?_ ?_;rotate_left;(intro w' hw';obtain⟨y1,y2,y3,y4,y5⟩:=(HF.o.later hw').looks;obtain⟨y6,y7,y8,y9⟩:=(HM.o.later hw').looks;clear hw';go_simp;with_reducible rfl);go_simp)
         refine dw rfl (by rfl) ?_;go_simp
         refine dw rfl (by rfl) ?_;go_simp
         refine dw rfl (by rfl) ?_;go_simp
         refine dw rfl (by rfl) ?_;go_simp
         refine dw rfl (by rfl) ?_;go_simp
         refine dw rfl (by rfl) ?_;go_simp
         refine dw rfl (by rfl) ?_;go_simp
         iterate 3 (refine aa rfl (by rfl) (v:=?_) ?_ ?_;rotate_left;(intro w' hw';obtain⟨y1,y2,y3,y4,y5⟩:=(HF.o.later hw').looks;obtain⟨y6,y7,y8,y9⟩:=(HM.o.later hw').looks;clear hw';go_simp;with_reducible rfl);go_simp)
         refine aa rfl (by rfl) (v:=.agg (dM D1 true 0).toArray) (λw' hw'=>ar 42 _ rfl (u) rfl 42 _ (0,0) _ (HF.o.later hw').c1.row underlying42 rfl (gF _ _ _ (HF.o.later hw').c1.k)) ?_;go_simp
         iterate 3 (refine aa rfl (by rfl) (v:=?_) ?_ ?_;rotate_left;(intro w' hw';obtain⟨y1,y2,y3,y4,y5⟩:=(HF.o.later hw').looks;obtain⟨y6,y7,y8,y9⟩:=(HM.o.later hw').looks;clear hw';go_simp;with_reducible rfl);go_simp)
         refine aU (f:=21) (args:=#[.agg (dM D1 true 0).toArray,.slice (some ⟨vb,o1,none⟩) 32 c1,.bool true]) rfl (by rfl) (by go_simp) ?_;refine(PN D1 k1 vb o1 c1 U PJ.o).mono ?_;rintro e Z1 ⟨rfl,hz⟩;refine⟨_,rfl,hz,?_⟩;replace HF:=aj (HF.o.later hz);replace OB:=aj (OB.o.later hz);replace OC:=aj (OC.o.later hz);replace HM:=aj (HM.o.later hz);replace PJ:=aj (PJ.o.later hz);replace WY:=aj (WY.o.later hz);clear hz;go_simp
         iterate 3 (refine aa rfl (by rfl) (v:=?_) ?_ ?_;rotate_left;(intro w' hw';obtain⟨y1,y2,y3,y4,y5⟩:=(HF.o.later hw').looks;obtain⟨y6,y7,y8,y9⟩:=(HM.o.later hw').looks;clear hw';go_simp;with_reducible rfl);go_simp)
         refine aa rfl (by rfl) (v:=.agg (dM D2 true 0).toArray) (λw' hw'=>ar 42 _ rfl (u+1) rfl 42 _ (0,0) _ (HF.o.later hw').c2.row underlying42 rfl (gF _ _ _ (HF.o.later hw').c2.k)) ?_;go_simp
         iterate 3 (refine aa rfl (by rfl) (v:=?_) ?_ ?_;rotate_left;(intro w' hw';obtain⟨y1,y2,y3,y4,y5⟩:=(HF.o.later hw').looks;obtain⟨y6,y7,y8,y9⟩:=(HM.o.later hw').looks;clear hw';go_simp;with_reducible rfl);go_simp)
         refine aU (f:=21) (args:=#[.agg (dM D2 true 0).toArray,.slice (some ⟨vb,o2,none⟩) 32 c2,.bool true]) rfl (by rfl) (by go_simp) ?_;refine(PN D2 k2 vb o2 c2 Z1 WY.o).mono ?_;rintro e Z2 ⟨rfl,hz⟩;refine⟨_,rfl,hz,?_⟩;replace HF:=aj (HF.o.later hz);replace OB:=aj (OB.o.later hz);replace OC:=aj (OC.o.later hz);replace HM:=aj (HM.o.later hz);replace PJ:=aj (PJ.o.later hz);replace WY:=aj (WY.o.later hz);clear hz;go_simp
         iterate 18 (refine aa rfl (by rfl) (v:=?_) ?_ ?_;rotate_left;(intro w' hw';obtain⟨y1,y2,y3,y4,y5⟩:=(HF.o.later hw').looks;obtain⟨y6,y7,y8,y9⟩:=(HM.o.later hw').looks;clear hw';go_simp;with_reducible rfl);go_simp)
         refine az cA ?_;clear cA
         go_wp2_with fail
         go_roundg (5-(k+1))
         case measure=>omega
         case rel=>exact⟨k+1,a',l',c',by omega,rfl,rfl,by go_num,HB.o _ _ _ _ _ ⟨_,_,_,OB.o,OC.o.mono (by omega)⟩⟩
       ·as_aux_lemma=>
         refine(RJ s'.ga x2 W5 Ov.o.a Ov.o.tab h2).mono ?_;rintro e W6 ⟨rfl,lZ⟩;obtain⟨X1,X2,X3,s1,s2,s3,⟨gi,jM,Cj⟩,rV⟩:=Wk W6;simp only[zo,eY,cz] at s1;have vg:=ix;have Au:bF.length=32:=rfl;obtain⟨zc,hzc⟩:=aW (aab);obtain⟨zk,hzk⟩:=aW (bF);rw[hzc] at s1 s2 vg;rw[hzk] at s3 Au;rw[hzc,hzk];obtain⟨u,hu⟩:∃p,W6.heap.size=p:=⟨_,rfl⟩;rw[hu] at s1 s2 s3 gi jM Cj;have HDX:=aj ((Ov.o.later lZ).later rV);have HLX:=aj ((HL5.o.later lZ).later rV);have HKX:=aj ((HK5.o.later lZ).later rV);have B5:=aj gi;have vR:=aj jM;have Jg:=aj Cj;clear gi jM Cj rV lZ Ov HL5 HK5 hzc hzk
         go_wp2_with fail
         clear s1 s2 s3 hu vg Au;obtain⟨R9,Cf,m9,ob,oo,oc,nb,no,nc,ra,rl,rc,sb,so,sc,OA⟩:=HDX.o.p;refine(IQ s'.ha s'.ma s'.xa _ m9 ob oo oc nb no nc ra rl rc sb so sc X3 OA h2).mono ?_;rintro e W7 ⟨yi,rfl⟩;obtain⟨zs,SY⟩:=aW ([.slice none 0 0,.bool false,.int .u64 0]:bK);have OO:zs.length=3:=by rw[←SY];rfl
         have pH:∀v∈zs,v.oneCell'=true:=by rw[←SY];intro v hv;simp only[mg,nj,or_false] at hv;rcases hv with rfl|rfl|rfl<;>rfl
         have hza:(#[.slice none 0 0,.bool false,.int .u64 0]:Array Value)=zs.toArray:=by rw[←SY]
         have uf:zs[0]?=some (.slice none 0 0):=by rw[←SY];rfl
         obtain⟨Y1,Y2,s4,s5,BR,zp,Ox⟩:=GL W7 zs zs OO OO pH pH;have ik:=yi.trans (Ox.mono yi.size);obtain⟨v,hv⟩:∃p,W7.heap.size=p:=⟨_,rfl⟩;rw[hv] at s4 s5 BR zp;obtain⟨zk,hzk⟩:=aW (cz 32 0:aO);have kH:zk.length=32:=by rw[←hzk];rfl
         have HZK:=aj hzk;have HF:ae (Oy Y2 kb u v s'.ha SS zk zk zk false (.slice none 0 0) (.slice none 0 0) sb so sc):=by rw[←hzk];exact⟨HKX.o.later ik,T6,B5.o.later ik,vR.o.later ik,Jg.o.later ik,rfl,dB BR uf,dB zp uf,(OA.later ik).cells.2.2.2.2.1,Zn.o▸(OA.later ik).ss⟩
         rw[hza];clear hza pH uf SY hzk;have OB:=aj (HDX.o.later ik);have OC:=aj (HLX.o.later ik);clear yi BR zp Ox ik OA Cf HKX B5 vR Jg HDX HLX Zn
         go_wp2_with fail
         clear s4 s5 hv OO;obtain⟨U,hUd⟩:=aW (Y2.drew);have Gw:Below Y2.heap.size Y2 U:=by rw[←hUd];exact gl
         have HUd:=aj hUd;replace HF:=aj (HF.o.later Gw);replace OB:=aj (OB.o.later Gw);replace OC:=aj (OC.o.later Gw);have z1:=Ba SS SS;clear hUd Gw;refine ah (G:=bM) (by kernel_rfl) bM.refl bM.trans (by kernel_rfl) [(0,true),(1,true),(2,true),(3,true),(4,true),(5,true),(6,true),(7,true),(8,true),(9,true),(10,true),(11,true),(12,true),(13,true),(14,true),(15,true),(16,true),(17,true),(18,true),(19,true),(20,true),(21,true),(22,true),(23,true),(24,true),(25,true),(26,true),(27,true),(28,true),(29,true),(30,true),(31,true),(32,false),(33,true),(34,true),(35,true),(36,true),(37,true),(38,true),(39,true),(40,false),(41,true),(42,true),(43,true),(44,true),(45,true),(46,true),(47,true),(48,true),(49,true),(50,true),(51,true),(52,true),(53,true),(54,true),(55,true),(56,true),(57,true),(58,true)] rfl (by kernel_rfl) ?_;intro KK cA;rw[HUd.o];clear HUd
         iterate 21 (refine aa rfl (by rfl) (v:=?_) ?_ ?_;rotate_left;(intro w' hw';obtain⟨y1,y2,y3,y4,y5⟩:=(HF.o.later hw').looks;clear hw';go_simp;with_reducible rfl);go_simp)
         refine aa rfl (by rfl) (v:=.agg (zk.map bv).toArray) (λw' hw'=>ar 24 _ rfl (u+1+1) rfl 24 _ (0,0) _ (HF.o.later hw').h3 underlying24 rfl (hI.out zk kH)) ?_;go_simp
         refine aa rfl (by rfl) (v:=.agg (zk.map bv).toArray) (λw' hw'=>by rw[←HZK.o];clear hw';go_simp;rfl) ?_;go_simp
         refine aa rfl (by rfl) (v:=?_) ?_ ?_;rotate_left;(intro w' hw';have q3:=G8 w' 24 32 zk zk kH kH underlying24;rw[decide_eq_true rfl] at q3;clear hw';go_simp;with_reducible rfl);go_simp
         iterate 4 (refine aa rfl (by rfl) (v:=?_) ?_ ?_;rotate_left;(intro w' hw';obtain⟨y1,y2,y3,y4,y5⟩:=(HF.o.later hw').looks;clear hw';go_simp;with_reducible rfl);go_simp)
         refine aa rfl (by rfl) (v:=.agg (dM zk false 0).toArray) (λw' hw'=>ar 42 _ rfl (u) rfl 42 _ (0,0) _ (HF.o.later hw').c1.row underlying42 rfl (gF _ _ _ (HF.o.later hw').c1.k)) ?_;go_simp
         iterate 3 (refine aa rfl (by rfl) (v:=?_) ?_ ?_;rotate_left;(intro w' hw';obtain⟨y1,y2,y3,y4,y5⟩:=(HF.o.later hw').looks;clear hw';go_simp;with_reducible rfl);go_simp)
         refine aU (f:=21) (args:=#[.agg (dM zk false 0).toArray,.slice none 0 0,.bool false]) rfl (by rfl) (by go_simp) ?_;have xH:=PO U;rw[HZK.o] at xH;refine xH.mono ?_;clear xH;rintro e Z1 ⟨rfl,hz⟩;refine⟨_,rfl,hz,?_⟩;replace HF:=aj (HF.o.later hz);replace OB:=aj (OB.o.later hz);replace OC:=aj (OC.o.later hz);clear hz;go_simp
         iterate 3 (refine aa rfl (by rfl) (v:=?_) ?_ ?_;rotate_left;(intro w' hw';obtain⟨y1,y2,y3,y4,y5⟩:=(HF.o.later hw').looks;clear hw';go_simp;with_reducible rfl);go_simp)
         refine aa rfl (by rfl) (v:=.agg (dM zk false 0).toArray) (λw' hw'=>ar 42 _ rfl (u+1) rfl 42 _ (0,0) _ (HF.o.later hw').c2.row underlying42 rfl (gF _ _ _ (HF.o.later hw').c2.k)) ?_;go_simp
         iterate 3 (refine aa rfl (by rfl) (v:=?_) ?_ ?_;rotate_left;(intro w' hw';obtain⟨y1,y2,y3,y4,y5⟩:=(HF.o.later hw').looks;clear hw';go_simp;with_reducible rfl);go_simp)
         refine aU (f:=21) (args:=#[.agg (dM zk false 0).toArray,.slice none 0 0,.bool false]) rfl (by rfl) (by go_simp) ?_;have xH:=PO Z1;rw[HZK.o] at xH;refine xH.mono ?_;clear xH;rintro e Z2 ⟨rfl,hz⟩;refine⟨_,rfl,hz,?_⟩;replace HF:=aj (HF.o.later hz);replace OB:=aj (OB.o.later hz);replace OC:=aj (OC.o.later hz);clear hz;go_simp
         iterate 5 (refine aa rfl (by rfl) (v:=?_) ?_ ?_;rotate_left;(intro w' hw';obtain⟨y1,y2,y3,y4,y5⟩:=(HF.o.later hw').looks;clear hw';go_simp;with_reducible rfl);go_simp)
         refine dw rfl (by rfl) ?_;go_simp
         refine dw rfl (by rfl) ?_;go_simp
         refine dw rfl (by rfl) ?_;go_simp
         refine dw rfl (by rfl) ?_;go_simp
         refine dw rfl (by rfl) ?_;go_simp
         refine dw rfl (by rfl) ?_;go_simp
         refine dw rfl (by rfl) ?_;go_simp
         refine dw rfl (by rfl) ?_;go_simp
         refine dw rfl (by rfl) ?_;go_simp
         refine dw rfl (by rfl) ?_;go_simp
         refine dw rfl (by rfl) ?_;go_simp
         iterate 2 (refine aa rfl (by rfl) (v:=?_) ?_ ?_;rotate_left;(intro w' hw';obtain⟨y1,y2,y3,y4,y5⟩:=(HF.o.later hw').looks;clear hw';go_simp;with_reducible rfl);go_simp)
         refine az cA ?_;clear cA
         go_wp2_with fail
         go_roundg (5-(k+1))
         case measure=>omega
         case rel=>exact⟨k+1,a',l',c',by omega,rfl,rfl,by go_num,HB.o _ _ _ _ _ ⟨_,_,_,OB.o,OC.o.mono (by omega)⟩⟩
  ·have HW:ae (Below w.heap.size w wr):=by obtain⟨_,_,_,h,_⟩:=pY.o;exact h.aY
   clear pY
   rcases Nat.lt_or_ge k GN with gi|gi
   ·have i1:(k:Int)<(GN:Int):=by omega
    have i2:¬(k:Int)<5:=by omega
    go_wp2
    go_ret
    exact⟨rfl,HW.o⟩
   ·have i1:¬(k:Int)<(GN:Int):=by omega
    go_wp2
    go_ret
    exact⟨rfl,HW.o⟩
end Go.Proofs.YtkdpblbhcfhagaaGreatDoor.noiseTells
