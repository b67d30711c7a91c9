import Derived.Test.YtkdpblbhcfhagaaGreatDoorQah
import Derived.Test.YtkdpblbhcfhagaaGreatDoorQai
import Derived.Lib.SliceRun
namespace Go.Proofs.YtkdpblbhcfhagaaGreatDoor
open Go.Proofs.Tryz
open _root_.Nat renaming le_refl → di, le_trans → kx, lt_of_lt_of_le → tV
open Go.RowKit.Below renaming refl → bZ, heap_alloc → jE
open Go.World renaming size_alloc → fx
open _root_.Array renaming getElem?_eq_some_iff → gD
open Go renaming undef → ag, World → aw, heap_alloc_new → eC
open _root_.List renaming replicate → cz, not_mem_nil → nj, mem_cons → mg, take_of_length_le → su
open Go.Exit renaming inBlock → nu
set_option maxHeartbeats 64000000
set_option linter.unusedVariables false
set_option maxRecDepth 100000
open Go.RowKit
structure PK where
 T:TypeId
 Z:bK
 E:bK→Prop
 place:∀{ev:Operand→Value} {o:Oper} {w:aw},o.op= .alloc T→(execOp ev o).run prog w= .ok (.value (.pointer (some ⟨w.heap.size,0,none⟩))) (w.alloc (.cells Z.toArray T))
 ahG:∀{ev:Operand→Value} {o:Oper} {w:aw} {x y:Operand} {g:Nat} {c:bK},o.op= .store T x y→ev x= .pointer (some ⟨g,0,none⟩)→ev y= .agg c.toArray→E c→w.heap[g]?=some (.cells Z.toArray T (0,0))→(execOp ev o).run prog w= .ok .skip (w.setRow g c.toArray)
def CG (T:TypeId)(W:aw)(g:Nat)(vs:bK):Prop:=W.heap[g]?=some (.cells vs.toArray T (0,0))
theorem CG.lt {T:TypeId}{w:aw}{g:Nat}{l:bK}(h:CG T w g l):g<w.heap.size:=(gD.1 h).1
theorem CG.later {T:TypeId}{w w':aw}{g:Nat}{l:bK}(h:CG T w g l)(hb:Below w.heap.size w w'):CG T w' g l:=by unfold CG;rw[hb.block g h.lt];exact h
theorem CG.fF {T:TypeId}{w:aw}{g g':Nat}{l:bK}(h:CG T w g l)(eL:g≠g')(cs:Array Value):CG T (w.setRow g' cs) g l:=by unfold CG;rw[setRow_other _ _ _ _ eL];exact h
def ah' (ops:Array Oper)(m p:Nat):Bool:=(List.range m).all λj=>je ops j !=some p
theorem B4.slot {ops:Array Oper}{m:Nat}{v:Nat→Value}{d:Nat→Bool}{a A:Act}(h:B4 ops m v d a A)(p:Nat)(hp:ah' ops m p=true):A.eval (.tmp p)=a.tmps.getD p ag:=
 h.old p λj hj e=>by unfold ah' at hp;rw[List.all_eq_true] at hp;have:=hp j (List.mem_range.2 hj);rw[e] at this;simp at this
theorem Gv {P:Program}{Q:Exit→Act→aw→Prop}{o:Oper}{a:Act}{w w':aw}{K:Act→aw→Prop}(x9:(execOp a.eval o).run P w= .ok .skip w')(h:K (a.put o.dst ag) w'):o.wp P a w K Q:=by unfold Oper.wp;rw[x9];exact h
theorem bw {P:Program}{ev:Operand→Value}{o:Oper}{w:aw}{f:FuncId}{x y:Operand}{t u:TypeId}{vx vy:Value}(ho:o.op= .call {callee:=.value (.func f),args:=#[x,y],argTypes:=#[t,u]})(hf:ev (.func f)= .func (.func f) #[] #[])(hx:ev x=vx)(hy:ev y=vy)(hc:(callFunc f #[vx,vy]).run P w= .ok (.enter f #[vx,vy]) w):
  (execOp ev o).run P w= .ok (.enter f #[vx,vy]) w:=by
 unfold execOp;simp[ho,resolve,invoke,hf,hx,hy,Deferred.ofValue,hc]
theorem oU {P:Program}{ev:Operand→Value}{o:Oper}{w:aw}{f:FuncId}{x:Operand}{t:TypeId}{vx:Value}(ho:o.op= .call {callee:=.value (.func f),args:=#[x],argTypes:=#[t]})(hf:ev (.func f)= .func (.func f) #[] #[])(hx:ev x=vx)(hc:(callFunc f #[vx]).run P w= .ok (.enter f #[vx]) w):
  (execOp ev o).run P w= .ok (.enter f #[vx]) w:=by
 unfold execOp;simp[ho,resolve,invoke,hf,hx,Deferred.ofValue,hc]
theorem eX {c c':bK}(h:Value.agg c.toArray= .agg c'.toArray):c=c':=by
 have h1:c.toArray=c'.toArray:=by injection h
 have h2:=congrArg Array.toList h1
 simpa using h2
theorem dx {P:Program}{ops:Array Oper}{Q:Exit→Act→aw→Prop}{l l':List Oper}{a a':Act}{w:aw}(hl:l=l')(ha:a=a')(h:wpList P ops Q l' a' w):wpList P ops Q l a w:=by rw[hl,ha];exact h
structure aaW (T:TypeId)(ops:Array Oper)(m sz:Nat)(dY:List Nat)(so vq:Nat→Nat):Prop where
 Ve:∀p∈dY,p<m∧∃o,ops[p]?=some o∧o.op= .alloc T∧o.guard=none
 st:∀p∈dY,so p<m∧vq p<m∧so p∉dY∧vq p∉dY∧∃o x y,ops[so p]?=some o∧o.op= .store T (.tmp x) (.tmp y)∧o.guard=none∧je ops p=some x∧je ops (vq p)=some y∧x<sz∧y<sz∧
  (∃e∈o.after,Region.binds .any e=true∧e.on=p)∧(∃e∈o.after,Region.binds .any e=true∧e.on=vq p)
 one:∀p∈dY,∀q∈dY,so p=so q→p=q
 vs:∀p∈dY,∀q∈dY,vq p≠so q
def abo (T:TypeId)(ops:Array Oper)(m sz:Nat)(dY:List Nat)(so vq:Nat→Nat):Bool:=
 dY.all λp=>decide (p<m)&&(match ops[p]? with|some o=>(match o.op with| .alloc t=>t==T|_=>false)&&o.guard==none|none=>false)&&decide (so p<m)&&decide (vq p<m)&& !dY.contains (so p)&& !dY.contains (vq p)&&
  (match ops[so p]? with
   |some o=>(match o.op with
    | .store t (.tmp x) (.tmp y)=>t==T&&o.guard==none&&je ops p==some x&&je ops (vq p)==some y&&decide (x<sz)&&decide (y<sz)&&(o.after.any λe=>Region.binds .any e&&e.on==p)&&(o.after.any λe=>Region.binds .any e&&e.on==vq p)
    |_=>false)
   |none=>false)&&dY.all λq=>(so p !=so q||p==q)&&vq p !=so q
theorem tF {o:Oper}{j:Nat}(h:(o.after.any λe=>Region.binds .any e&&e.on==j)=true):∃e∈o.after,Region.binds .any e=true∧e.on=j:=by obtain⟨q,hq,hqq⟩:=Array.any_eq_true.1 h;obtain⟨hb,sA⟩:=Bool.and_eq_true_iff.1 hqq;exact⟨o.after[q],Array.getElem_mem hq,hb,by simpa using sA⟩
theorem au {o:Oper}{d:Nat→Bool}(hd:∀e∈o.after,Region.binds .any e=true→d e.on=true)(j:Nat)(h:(o.after.any λe=>Region.binds .any e&&e.on==j)=true):d j=true:=by obtain⟨e,he,hb,sA⟩:=tF h;rw[←sA];exact hd e he hb
theorem aaI {T:TypeId}{ops:Array Oper}{m sz:Nat}{dY:List Nat}{so vq:Nat→Nat}(h:abo T ops m sz dY so vq=true):aaW T ops m sz dY so vq:=by
 unfold abo at h;rw[List.all_eq_true] at h;have h':∀p∈dY,_:=λp hp=>by have:=h p hp;simp only[Bool.and_eq_true] at this;exact this
 refine⟨λp hp=>?_,λp hp=>?_,λp hp q hq e=>?_,λp hp q hq=>?_⟩
 ·obtain⟨⟨⟨⟨⟨⟨⟨h1,h2⟩,h3⟩,h4⟩,h5⟩,h6⟩,h7⟩,h8⟩:=h' p hp;refine⟨dL h1,?_⟩;split at h2
  ·rename_i o ho
   obtain⟨h9,Vf⟩:=Bool.and_eq_true_iff.1 h2;split at h9
   ·rename_i t JS
    refine⟨o,ho,?_,by simpa using Vf⟩;rw[JS]
    congr 1
    simpa using h9
   ·cases h9
  ·cases h2
 ·obtain⟨⟨⟨⟨⟨⟨⟨h1,h2⟩,h3⟩,h4⟩,h5⟩,h6⟩,h7⟩,h8⟩:=h' p hp;refine⟨dL h3,dL h4,by simpa using h5,by simpa using h6,?_⟩;split at h7
  ·rename_i o ho
   split at h7
   ·rename_i t x y JS
    simp only[Bool.and_eq_true] at h7;obtain⟨⟨⟨⟨⟨⟨⟨k1,k2⟩,k3⟩,k4⟩,k5⟩,k6⟩,k7⟩,k8⟩:=h7;refine⟨o,x,y,ho,?_,by simpa using k2,by simpa using k3,by simpa using k4,dL k5,dL k6,tF k7,tF k8⟩;rw[JS]
    congr 1
    simpa using k1
   ·cases h7
  ·cases h7
 ·obtain⟨⟨⟨⟨⟨⟨⟨h1,h2⟩,h3⟩,h4⟩,h5⟩,h6⟩,h7⟩,h8⟩:=h' p hp;rw[List.all_eq_true] at h8;have h9:=h8 q hq;simp only[Bool.and_eq_true,Bool.or_eq_true,bne_iff_ne,beq_iff_eq] at h9
  rcases h9.1 with Vf|Vf
  ·exact absurd e Vf
  ·exact Vf
 ·obtain⟨⟨⟨⟨⟨⟨⟨h1,h2⟩,h3⟩,h4⟩,h5⟩,h6⟩,h7⟩,h8⟩:=h' p hp;rw[List.all_eq_true] at h8;have h9:=h8 q hq;simp only[Bool.and_eq_true,bne_iff_ne] at h9;exact h9.2
structure vw (K:PK)(w0:aw)(m:Nat)(dY:List Nat)(so vq:Nat→Nat)(Sp:Nat→Value→Prop)(g:Nat→Nat)(d:Nat→Bool)(v:Nat→Value)(W:aw):Prop where
 aY:Below w0.heap.size w0 W
 val:∀j,j∉dY→j∉dY.map so→d j=true→j<m→Sp j (v j)
 ptr:∀p∈dY,d p=true→v p= .pointer (some ⟨g p,0,none⟩)∧w0.heap.size≤g p
 Rp:∀p∈dY,d p=true→d (so p)=false→CG K.T W (g p) K.Z
 Rq:∀p∈dY,d (so p)=true→d p=true∧d (vq p)=true∧∃c,v (vq p)= .agg c.toArray∧K.E c∧CG K.T W (g p) c
 Rr:∀p∈dY,∀q∈dY,d p=true→d q=true→p≠q→g p≠g q
theorem vw.old {K:PK}{w0:aw}{m:Nat}{dY:List Nat}{so vq:Nat→Nat}{Sp:Nat→Value→Prop}{g:Nat→Nat}{d:Nat→Bool}{v:Nat→Value}{W:aw}(k:vw K w0 m dY so vq Sp g d v W):∀p∈dY,d p=true→g p<W.heap.size:=λp hp hd=>by
 cases hs:d (so p) with
 |false=>exact(k.Rp p hp hd hs).lt
 |true=>
  obtain⟨_,_,c,_,_,hc⟩:=k.Rq p hp hs;exact hc.lt
theorem bO {d:Nat→Bool}{i j:Nat}(h:j≠i):pA d i j=d j:=by simp[pA,h]
theorem Py {d:Nat→Bool}{i:Nat}:pA d i i=true:=by simp[pA]
theorem iZ {v:Nat→Value}{i j:Nat}{x:Value}(h:j≠i):BZ v i x j=v j:=by simp[BZ,h]
theorem Ii {v:Nat→Value}{i:Nat}{x:Value}:BZ v i x i=x:=by simp[BZ]
theorem vw.value {K:PK}{ops:Array Oper}{w0:aw}{m sz:Nat}{dY:List Nat}{so vq:Nat→Nat}{Sp:Nat→Value→Prop}{g:Nat→Nat}{d:Nat→Bool}{v:Nat→Value}{W W':aw}(k:vw K w0 m dY so vq Sp g d v W)(P:aaW K.T ops m sz dY so vq){i:Nat}(hi:i∉dY)(hs:i∉dY.map so)(hd:d i=false){x:Value}(hx:Sp i x)(hb:Below W.heap.size W W'):
  vw K w0 m dY so vq Sp g (pA d i) (BZ v i x) W':=by
 have na:∀p∈dY,p≠i:=λp hp e=>hi (by rw[←e];exact hp);have ns:∀p∈dY,so p≠i:=λp hp e=>hs (by rw[←e];exact List.mem_map_of_mem hp);refine⟨k.aY.trans (hb.mono k.aY.size),?_,?_,?_,?_,?_⟩
 ·intro j h1 h2 h3 h4
  by_cases e:j=i
  ·subst e;rw[Ii];exact hx
  ·rw[iZ e];rw[bO e] at h3;exact k.val j h1 h2 h3 h4
 ·intro p hp nJ;rw[bO (na p hp)] at nJ;rw[iZ (na p hp)];exact k.ptr p hp nJ
 ·intro p hp nJ uN;rw[bO (na p hp)] at nJ;rw[bO (ns p hp)] at uN;exact(k.Rp p hp nJ uN).later hb
 ·intro p hp uN;rw[bO (ns p hp)] at uN;obtain⟨h1,h2,c,h3,h4,h5⟩:=k.Rq p hp uN;have hq:vq p≠i:=λe=>by rw[e,hd] at h2;cases h2
  rw[bO (na p hp),bO hq,iZ hq];exact⟨h1,h2,c,h3,h4,h5.later hb⟩
 ·intro p hp q hq nJ Ai;rw[bO (na p hp)] at nJ;rw[bO (na q hq)] at Ai;exact k.Rr p hp q hq nJ Ai
theorem vw.place {K:PK}{ops:Array Oper}{w0:aw}{m sz:Nat}{dY:List Nat}{so vq:Nat→Nat}{Sp:Nat→Value→Prop}{g:Nat→Nat}{d:Nat→Bool}{v:Nat→Value}{W:aw}(k:vw K w0 m dY so vq Sp g d v W)(P:aaW K.T ops m sz dY so vq){i:Nat}(hi:i∈dY)(hd:d i=false):
  vw K w0 m dY so vq Sp (λj=>if j=i then W.heap.size else g j) (pA d i) (BZ v i (.pointer (some ⟨W.heap.size,0,none⟩))) (W.alloc (.cells K.Z.toArray K.T)):=by
 have hb:Below W.heap.size W (W.alloc (.cells K.Z.toArray K.T)):=eF;have ns:∀p∈dY,so p≠i:=λp hp e=>(P.st p hp).2.2.1 (by rw[e];exact hi);have nv:∀p∈dY,vq p≠i:=λp hp e=>(P.st p hp).2.2.2.1 (by rw[e];exact hi);have amx:d (so i)=false:=by
  cases h:d (so i) with
  |false=>rfl
  |true=>
   have:=(k.Rq i hi h).1;rw[hd] at this;cases this
 refine⟨k.aY.trans (hb.mono k.aY.size),?_,?_,?_,?_,?_⟩
 ·intro j h1 h2 h3 h4;have e:j≠i:=λe=>h1 (by rw[e];exact hi);rw[iZ e];rw[bO e] at h3;exact k.val j h1 h2 h3 h4
 ·intro p hp nJ
  by_cases e:p=i
  ·subst e;simp only[Ii,if_true];exact⟨by first|rfl|trivial,k.aY.size⟩
  ·rw[bO e] at nJ;simp only[iZ e,e,if_false];exact k.ptr p hp nJ
 ·intro p hp nJ uN;rw[bO (ns p hp)] at uN
  by_cases e:p=i
  ·subst e;simp only[if_true];exact eC W _
  ·rw[bO e] at nJ;simp only[e,if_false];exact(k.Rp p hp nJ uN).later hb
 ·intro p hp uN;rw[bO (ns p hp)] at uN;obtain⟨h1,h2,c,h3,h4,h5⟩:=k.Rq p hp uN;have e:p≠i:=λe=>by rw[e,hd] at h1;cases h1
  rw[bO e,bO (nv p hp),iZ (nv p hp)];simp only[e,if_false];exact⟨h1,h2,c,h3,h4,h5.later hb⟩
 ·intro p hp q hq nJ Ai Kl
  by_cases e:p=i
  ·by_cases e2:q=i
   ·exact absurd (e.trans e2.symm) Kl
   ·have:=k.old q hq (by rwa [bO e2] at Ai);simp only[e,e2,if_true,if_false];omega
  ·have h1:=k.old p hp (by rwa [bO e] at nJ)
   by_cases e2:q=i
   ·simp only[e,e2,if_true,if_false];omega
   ·simp only[e,e2,if_false];exact k.Rr p hp q hq (by rwa [bO e] at nJ) (by rwa [bO e2] at Ai) Kl
theorem vw.store {K:PK}{ops:Array Oper}{w0:aw}{m sz:Nat}{dY:List Nat}{so vq:Nat→Nat}{Sp:Nat→Value→Prop}{g:Nat→Nat}{d:Nat→Bool}{v:Nat→Value}{W:aw}(k:vw K w0 m dY so vq Sp g d v W)(P:aaW K.T ops m sz dY so vq){p:Nat}(hp:p∈dY)(hd:d (so p)=false)(nJ:d p=true)(Ai:d (vq p)=true){c:bK}(hv:v (vq p)= .agg c.toArray)(hE:K.E c):
  vw K w0 m dY so vq Sp g (pA d (so p)) (BZ v (so p) ag) (W.setRow (g p) c.toArray):=by
 have NW:∀q∈dY,q≠so p:=λq hq e=>(P.st p hp).2.2.1 (by rw[←e];exact hq);have YX:∀q∈dY,vq q≠so p:=λq hq=>P.vs q hq p hp;have hz:=k.Rp p hp nJ hd;refine⟨below_setRow k.aY (k.ptr p hp nJ).2 _,?_,?_,?_,?_,?_⟩
 ·intro j h1 h2 h3 h4;have e:j≠so p:=λe=>h2 (by rw[e];exact List.mem_map_of_mem hp);rw[iZ e];rw[bO e] at h3;exact k.val j h1 h2 h3 h4
 ·intro q hq AQ;rw[bO (NW q hq)] at AQ;rw[iZ (NW q hq)];exact k.ptr q hq AQ
 ·intro q hq AQ uN;rw[bO (NW q hq)] at AQ;have e:so q≠so p:=λe=>by rw[e,Py] at uN;cases uN
  have e2:q≠p:=λe2=>e (by rw[e2]);rw[bO e] at uN;exact(k.Rp q hq AQ uN).fF (k.Rr q hq p hp AQ nJ e2) _
 ·intro q hq uN
  by_cases e:q=p
  ·subst e;rw[bO (NW q hq),bO (YX q hq),iZ (YX q hq)];exact⟨nJ,Ai,c,hv,hE,setRow_heap W _ _ _ _ _ hz⟩
  ·have e2:so q≠so p:=λe2=>e (P.one q hq p hp e2);rw[bO e2] at uN;obtain⟨h1,h2,c',h3,h4,h5⟩:=k.Rq q hq uN;rw[bO (NW q hq),bO (YX q hq),iZ (YX q hq)];exact⟨h1,h2,c',h3,h4,h5.fF (k.Rr q hq p hp h1 nJ e) _⟩
 ·intro q hq r hr h1 h2;rw[bO (NW q hq)] at h1;rw[bO (NW r hr)] at h2;exact k.Rr q hq r hr h1 h2
theorem o9 (K:PK){ops:Array Oper}{Q:Exit→Act→aw→Prop}{id:Nat}{a:Act}{w:aw}(m:Nat)(hm:m≤ops.size)(qu:zH .any ops=true)(jS:uD ops m=true)(rp:Br .any ops m=true)(hmx:prog.follows .mixedOrders=true)
  (dY:List Nat) (so vq:Nat→Nat) (P:aaW K.T ops m a.tmps.size dY so vq) (Sp:Nat→Value→Prop) (hSp:∀p∈dY,∀x,Sp (vq p) x→∃c,x= .agg c.toArray∧K.E c)
  (hval:∀(d:Nat→Bool) (v:Nat→Value) (W:aw) (i:Nat) (o:Oper) (A:Act),i<m→i∉dY→i∉dY.map so→ops[i]?=some o→(∀j,j∉dY→j∉dY.map so→d j=true→j<m→Sp j (v j))→(∀e∈o.after,Region.binds .any e=true→d e.on=true)→B4 ops m v d a A→Below w.drew.heap.size w.drew W→
   Region.wanted o (yielded ops A.tmps)=true∧o.wp prog A W (λa' W'=>∃x,a'=A.put o.dst x∧Sp i x∧Below W.heap.size W W') Q)
  (vJ:∀(v:Nat→Value) (g:Nat→Nat) (W:aw),(∀j,j<m→j∉dY→j∉dY.map so→Sp j (v j))→(∀p∈dY,v p= .pointer (some ⟨g p,0,none⟩)∧w.drew.heap.size≤g p∧∃c,v (vq p)= .agg c.toArray∧K.E c∧CG K.T W (g p) c)→(∀p∈dY,∀q∈dY,p≠q→g p≠g q)→Below w.drew.heap.size w.drew W→
   wpList prog ops Q (ops.toList.drop m) (eb ops v (λ_=>true) m a) W):
  (Code.region id ops true).wp prog Q a w:=by
 refine qv hmx m hm qu jS rp (λd v W=>∃g,vw K w.drew m dY so vq Sp g d v W) (λ_=>ag)
  ⟨λ_=>0,bZ _ _,λj _ _ h=>(by cases h),λp _ h=>(by cases h),λp _ h=>(by cases h),λp _ h=>(by cases h),λp _ q _ h=>(by cases h)⟩ ?_ ?_
 ·rintro d v W i o A ⟨g,k⟩ hi ho Pg il hA
  by_cases qL:i∈dY
  ·obtain⟨_,o',Bs,JS,Gw⟩:=P.Ve i qL;obtain rfl:o'=o:=Option.some.inj (Bs.symm.trans ho);exact⟨by unfold Region.wanted;rw[Gw],av (K.place JS) ⟨_,rfl,_,k.place P qL Pg⟩⟩
  ·by_cases ot:i∈dY.map so
   ·obtain⟨p,hp,rfl⟩:=List.mem_map.1 ot;obtain⟨h1,h2,h3,h4,o',x,y,Bs,JS,Gw,hx,hy,hxs,hys,⟨e1,I6,ck,adf⟩,⟨e2,E5,cM,Ul⟩⟩:=P.st p hp;obtain rfl:o'=o:=Option.some.inj (Bs.symm.trans ho);have nJ:=il e1 I6 ck;have Ai:=il e2 E5 cM;rw[adf] at nJ;rw[Ul] at Ai;have hvp:=k.ptr p hp nJ;have hqs:vq p∉dY.map so:=λhh=>by obtain⟨q,hq,e⟩:=List.mem_map.1 hh;exact P.vs p hp q hq e.symm
    obtain⟨c,hc,hE⟩:=hSp p hp _ (k.val (vq p) h4 hqs Ai h2);have ex:=hA.new p x (P.Ve p hp).1 nJ hx hxs;have ey:=hA.new (vq p) y h2 Ai hy hys;rw[hvp.1] at ex;rw[hc] at ey;have hz:=k.Rp p hp nJ Pg;exact⟨by unfold Region.wanted;rw[Gw],Gv (K.ahG JS ex ey hE hz) ⟨ag,rfl,g,k.store P hp Pg nJ Ai hc hE⟩⟩
   ·obtain⟨hw,Yq⟩:=hval d v W i o A hi qL ot ho k.val il hA k.aY;refine⟨hw,Oper.wp_mono ?_ Yq⟩;rintro a' W' ⟨x,rfl,hx,hb⟩;exact⟨x,rfl,g,k.value P qL ot Pg hx hb⟩
 ·rintro d v W il ⟨g,k⟩;refine vJ v g W (λj hj h1 h2=>k.val j h1 h2 (il j hj) hj) (λp hp=>?_) (λp hp q hq Kl=>k.Rr p hp q hq (il p (P.Ve p hp).1) (il q (P.Ve q hq).1) Kl) k.aY;have h1:=k.ptr p hp (il p (P.Ve p hp).1);obtain⟨_,_,c,h3,h4,h5⟩:=k.Rq p hp (il _ (P.st p hp).1);exact⟨h1.1,h1.2,c,h3,h4,h5⟩
def AM:Array Value:=((cz 8 0#32).map uv).toArray
structure Wb (w:aw)(gs gp gr:Nat)(s:List (BitVec 32))(p:aO)(W:aw):Prop where
 s:Wd W gs 141 s
 p:dz W gp 143 p
 res:W.heap[gr]?=some (.cells AM 141 (0,0))
 nsr:gs≠gr
 bs:w.heap.size≤gs
 br:w.heap.size≤gr
 aY:Below w.heap.size w W
theorem Wb.new (w:aw)(s:List (BitVec 32))(p:aO):Wb w w.heap.size (w.heap.size+1) (w.heap.size+1+1) s p (((w.alloc (.cells (s.map uv).toArray 141)).alloc (.cells (p.map bv).toArray 143)).alloc (.cells AM 141)):=by
 have h0:=Wd.new w 141 s;have h1:=eC (w.alloc (.cells (s.map uv).toArray 141)) (.cells (p.map bv).toArray 143);have h2:=eC ((w.alloc (.cells (s.map uv).toArray 141)).alloc (.cells (p.map bv).toArray 143)) (.cells AM 141);rw[fx] at h1;rw[fx,fx] at h2;refine⟨?_,?_,h2,by omega,by omega,by omega,?_⟩
 ·unfold Wd;rw[jE _ _ _ (by simp;omega),jE _ _ _ (by simp)];exact h0
 ·unfold dz;rw[jE _ _ _ (by simp)];exact h1
 ·exact(eF.alloc (by simp) _).alloc (by simp;omega) _
theorem Wb.later {w W W':aw}{gs gp gr:Nat}{s:List (BitVec 32)}{p:aO}(t:Wb w gs gp gr s p W)(hb:Below W.heap.size W W'):Wb w gs gp gr s p W':=
 ⟨t.s.later hb,t.p.later hb,by rw[hb.block _ (gD.1 t.res).1];exact t.res,t.nsr,t.bs,t.br,t.aY.trans (hb.mono t.aY.size)⟩
structure Wt (w:aw)(gs gr g9 dh:Nat)(s m v:List (BitVec 32))(W:aw):Prop where
 s:Wd W gs 141 s
 res:W.heap[gr]?=some (.cells AM 141 (0,0))
 m:Wd W g9 168 m
 v:Wd W dh 168 v
 ns:gs≠dh
 nr:gr≠dh
 nm:g9≠dh
 nsr:gs≠gr
 bs:w.heap.size≤gs
 br:w.heap.size≤gr
 b9:gs<g9
 bv:w.heap.size≤dh
 aY:Below w.heap.size w W
theorem Wt.next {w W W':aw}{gs gr g9 dh:Nat}{s m v v':List (BitVec 32)}(t:Wt w gs gr g9 dh s m v W)(hv:Wd W' dh 168 v')(hg:W.grownBy W' (some dh)):Wt w gs gr g9 dh s m v' W':=by
 refine⟨t.s.but t.ns hg,?_,t.m.but t.nm hg,hv,t.ns,t.nr,t.nm,t.nsr,t.bs,t.br,t.b9,t.bv,t.aY.trans ⟨hg.os,hg.tape,hg.output,hg.size,λk hk=>?_⟩⟩
 ·rw[hg.block _ (gD.1 t.res).1 (λe=>t.nr (by cases e;rfl))];exact t.res
 ·have h1:=t.bv;have h2:=t.aY.size;exact hg.block k (by omega) (λe=>by cases e;omega)
theorem Wt.drew {w W:aw}{gs gr g9 dh:Nat}{s m v:List (BitVec 32)}(t:Wt w gs gr g9 dh s m v W):Wt w gs gr g9 dh s m v W.drew:=t.next t.v (jq W _)
theorem Wt.put {w W:aw}{gs gr g9 dh:Nat}{s m v:List (BitVec 32)}(t:Wt w gs gr g9 dh s m v W)(k:Nat)(x:BitVec 32):Wt w gs gr g9 dh (s.set k x) m v (W.setCell ⟨gs,k,none⟩ (uv x)):=by have h9:=t.b9;exact⟨t.s.set k x,by rw[heap_setCell_other _ ⟨gs,k,none⟩ _ _ (Ne.symm t.nsr)];exact t.res,t.m.other (by omega) _ _,t.v.other (Ne.symm t.ns) _ _,t.ns,t.nr,t.nm,t.nsr,t.bs,t.br,t.b9,t.bv,t.aY.setCell t.bs _⟩
theorem Wt.new {w W0 W:aw}{gs gp gr g9 dh:Nat}{s m v:List (BitVec 32)}{p:aO}(h:Wb w gs gp gr s p W0)(hb:Below W0.heap.size W0 W)(b9:W0.heap.size≤g9)(b10:W0.heap.size≤dh)(eL:g9≠dh)(hm:Wd W g9 168 m)(hv:Wd W dh 168 v):Wt w gs gr g9 dh s m v W:=by have hs:=h.s.lt;have hr:=(gD.1 h.res).1;have hz:=h.aY.size;have H:=h.later hb;exact⟨H.s,H.res,hm,hv,by omega,by omega,eL,h.nsr,h.bs,h.br,by omega,by omega,H.aY⟩
def blK:PK where
 T:=168
 Z:=(cz 16 0#32).map uv
 E:=λc=>∃l:List (BitVec 32),c=l.map uv∧l.length=16
 place:=by
  intro ev o w ho;unfold execOp;simp only[ho];go_simp
  rfl
 ahG:=by
  rintro ev o w x y g _ ho hx hy ⟨l,rfl,hl⟩ hz;have xA:=aL w g _ _ (l.map uv) hz (by simp[hl]) (cj l);have hlen:(l.map uv).length=16:=by simp[hl]
  have hu:=underlying168;unfold execOp;simp only[ho,hx,hy];go_simp
def vu (s v:List (BitVec 32)):Nat→List (BitVec 32)
 |0=>s
 |k+1=>(vu s v k).set k (bG s k^^^bG v k^^^bG v (8+k))
theorem zM (s v:List (BitVec 32)):∀k,(vu s v k).length=s.length
 |0=>rfl
 |k+1=>by rw[vu,List.length_set,zM s v k]
theorem KG (s v:List (BitVec 32))(j:Nat):∀k,k≤j→bG (vu s v k) j=bG s j
 |0,_=>rfl
 |k+1,h=>by rw[vu,gy _ _ _ _ (by omega),KG s v j k (by omega)]
theorem QZ (s v:List (BitVec 32))(hs:s.length=8):vu s v 8=(List.range 8).map λi=>bG s i^^^bG v i^^^bG v (8+i):=by
 match s,hs with
 |[a,b,c,d,e,f,g,h],_=>rfl
theorem W8 {P:Program}{a:Act}{o:Oper}{w:aw}{x:Operand}{v:Value}(ho:o.op= .move x)(hx:a.eval x=v):(execOp a.eval o).run P w= .ok (.value v) w:=by unfold execOp;simp[ho,hx]
theorem aaS {P:Program}{ev:Operand→Value}{o:Oper}{w:aw}{f:FuncId}{x y z:Operand}{t u s:TypeId}{vx vy vz:Value}(ho:o.op= .call {callee:=.value (.func f),args:=#[x,y,z],argTypes:=#[t,u,s]})(hf:ev (.func f)= .func (.func f) #[] #[])(hx:ev x=vx)(hy:ev y=vy)(hz:ev z=vz)(hc:(callFunc f #[vx,vy,vz]).run P w= .ok (.enter f #[vx,vy,vz]) w):
  (execOp ev o).run P w= .ok (.enter f #[vx,vy,vz]) w:=by
 unfold execOp;simp[ho,resolve,invoke,hf,hx,hy,hz,Deferred.ofValue,hc]
theorem AN (s:List (BitVec 32))(p:aO)(told:Nat)(last:Bool)(w:aw)(hs:s.length=8)(hp:p.length=64)(ec:ke w)(rp:told<18446744073709551616):
  Calls prog 102 #[.agg (s.map uv).toArray,.agg (p.map bv).toArray,.int .u64 (told:Int),.bool last] w λe w'=>e= .returned (.agg ((lh s p told last).map uv).toArray)∧Below w.heap.size w w':=by
 have sB:ae (Wb w w.heap.size (w.heap.size+1) (w.heap.size+1+1) s p (((w.alloc (.cells (s.map uv).toArray 141)).alloc (.cells (p.map bv).toArray 143)).alloc (.cells AM 141))):=Wb.new w s p;have dG:ae (ke w):=ec;have ux:ae (1<w.heap.size∧2<w.heap.size):=ec.lt;have IS:ae ((prog.info? 141).map (·.size)=some (s.map uv).toArray.size):=jr (n:=8) (by kernel_rfl) s hs;have IP:ae ((prog.info? 143).map (·.size)=some (p.map bv).toArray.size):=cW (n:=64) (by kernel_rfl) p hp;obtain⟨M,hM⟩:=aW (eN p 16);have vh:M.length=16:=by rw[←hM,iM]
 have HM:ae (eN p 16=M):=hM;obtain⟨V,hV⟩:=aW (iq s told last);have Ph:V.length=16:=by rw[←hV];exact lg s told last hs
 have HV:ae (iq s told last=V):=hV;have IM:ae ((prog.info? 168).map (·.size)=some (M.map uv).toArray.size):=jr (n:=16) (by kernel_rfl) M vh;clear ec hM hV
 go_enter func102,ntmps102
 go_wp2
 refine bY (P:=Code.wp prog _ _ _) (R:=λW=>ae (Wb w w.heap.size (w.heap.size+1) (w.heap.size+1+1) s p W)) _ sB ?_;intro W0 pY;clear sB;generalize w.heap.size+1+1=gr at pY⊢
 generalize w.heap.size+1=gp at pY⊢
 generalize w.heap.size=gs at pY⊢
 refine wp_cut (λa W=>∃g9 dh,a={tmps:=#[.agg (s.map uv).toArray,.agg (p.map bv).toArray,.int .u64 (told:Int),.bool last,.pointer (some ⟨gs,0,none⟩),.pointer (some ⟨gp,0,none⟩),ag,ag,.pointer (some ⟨gr,0,none⟩),.pointer (some ⟨g9,0,none⟩),.pointer (some ⟨dh,0,none⟩),ag,ag,.agg (p.map bv).toArray,.agg (M.map uv).toArray,.agg (s.map uv).toArray,.int .u64 (told:Int),.bool last,.agg (V.map uv).toArray,ag,ag,ag,ag,ag,ag,ag,ag,ag,ag,ag,ag,ag,ag,ag,ag,ag,ag,ag,ag,ag,ag,ag,ag,ag,ag,ag],defers:=[]}∧ae (Wt w gs gr g9 dh s M V W)) ?_ ?_
 ·have gx:ae (Wb w gs gp gr s p W0.drew):=pY.o.later (bZ _ _).drew;refine o9 blK 10 (di _) (by kernel_rfl) (by kernel_rfl) (by kernel_rfl) (by kernel_rfl) [6,7] (λp=>if p=6 then 8 else 9) (λp=>if p=6 then 1 else 5) (aaI (by kernel_rfl)) (λj x=>match j with|0=>x= .agg (p.map bv).toArray|1=>x= .agg (M.map uv).toArray|2=>x= .agg (s.map uv).toArray|3=>x= .int .u64 (told:Int)|4=>x= .bool last|5=>x= .agg (V.map uv).toArray|_=>True) ?_ ?_ ?_
  ·intro q hq x hx;simp only[mg,nj,or_false] at hq
   rcases hq with rfl|rfl
   ·exact⟨_,hx,M,rfl,vh⟩
   ·exact⟨_,hx,V,rfl,Ph⟩
  ·intro d v W i o AA hi qL ot ho hv aX hA hb;have H:=gx.o.later hb;have gw:i=0∨i=1∨i=2∨i=3∨i=4∨i=5:=by simp at qL ot;omega
   rcases gw with rfl|rfl|rfl|rfl|rfl|rfl
   ·cases ho
    exact⟨rfl,av (ar 143 _ rfl gp ((hA.slot 5 (by kernel_rfl)).trans rfl) 143 _ (0,0) _ H.p underlying143 rfl IP.out) ⟨_,rfl,rfl,bZ _ _⟩⟩
   ·cases ho
    have h0:AA.eval (.tmp 13)= .agg (p.map bv).toArray:=(hA.new 0 13 (by decide) (au aX 0 (by kernel_rfl)) rfl (dL (by kernel_rfl))).trans (hv 0 (by decide) (by decide) (au aX 0 (by kernel_rfl)) (by decide));refine⟨rfl,bf (oU rfl rfl h0 (by go_simp)) ((th p W hp).mono ?_)⟩;rintro e W1 ⟨rfl,ck⟩;exact⟨_,rfl,_,rfl,by show Value.agg _=_;rw[HM.o],ck⟩
   ·cases ho
    exact⟨rfl,av (ar 141 _ rfl gs ((hA.slot 4 (by kernel_rfl)).trans rfl) 141 _ (0,0) _ H.s underlying141 rfl IS.out) ⟨_,rfl,rfl,bZ _ _⟩⟩
   ·cases ho
    have h0:=hA.slot 2 (by kernel_rfl);exact⟨rfl,av (v:=.int .u64 (told:Int)) (w':=W) (W8 rfl (h0.trans rfl)) ⟨_,rfl,rfl,bZ _ _⟩⟩
   ·cases ho
    have h0:=hA.slot 3 (by kernel_rfl);exact⟨rfl,av (v:=.bool last) (w':=W) (W8 rfl (h0.trans rfl)) ⟨_,rfl,rfl,bZ _ _⟩⟩
   ·cases ho
    have h0:AA.eval (.tmp 15)= .agg (s.map uv).toArray:=(hA.new 2 15 (by decide) (au aX 2 (by kernel_rfl)) rfl (dL (by kernel_rfl))).trans (hv 2 (by decide) (by decide) (au aX 2 (by kernel_rfl)) (by decide));have h1:AA.eval (.tmp 16)= .int .u64 (told:Int):=(hA.new 3 16 (by decide) (au aX 3 (by kernel_rfl)) rfl (dL (by kernel_rfl))).trans (hv 3 (by decide) (by decide) (au aX 3 (by kernel_rfl)) (by decide));have h2:AA.eval (.tmp 17)= .bool last:=(hA.new 4 17 (by decide) (au aX 4 (by kernel_rfl)) rfl (dL (by kernel_rfl))).trans (hv 4 (by decide) (by decide) (au aX 4 (by kernel_rfl)) (by decide));refine⟨rfl,bf (aaS rfl rfl h0 h1 h2 (by go_simp)) ((j5 s told last W hs (dG.o.below H.aY ux.o) rp).mono ?_)⟩;rintro e W1 ⟨rfl,ck⟩;exact⟨_,rfl,_,rfl,by show Value.agg _=_;rw[HV.o],ck⟩
  ·intro v g W hs' ND hd hb;have e0:v 0= .agg (p.map bv).toArray:=hs' 0 (by decide) (by decide) (by decide);have e1:v 1= .agg (M.map uv).toArray:=hs' 1 (by decide) (by decide) (by decide);have e2:v 2= .agg (s.map uv).toArray:=hs' 2 (by decide) (by decide) (by decide);have e3:v 3= .int .u64 (told:Int):=hs' 3 (by decide) (by decide) (by decide);have e4:v 4= .bool last:=hs' 4 (by decide) (by decide) (by decide);have e5:v 5= .agg (V.map uv).toArray:=hs' 5 (by decide) (by decide) (by decide);obtain⟨e6,b6,c6,k6,_,z6⟩:=ND 6 (by simp);obtain⟨e7,b7,c7,k7,_,z7⟩:=ND 7 (by simp);obtain rfl:M.map uv=c6:=eX (e1.symm.trans k6);obtain rfl:V.map uv=c7:=eX (e5.symm.trans k7);have HF:ae (Wt w gs gr (g 6) (g 7) s M V W):=Wt.new gx.o hb b6 b7 (hd 6 (by simp) 7 (by simp) (by decide)) z6 z7;refine dx (l':=[]) (a':={tmps:=#[.agg (s.map uv).toArray,.agg (p.map bv).toArray,.int .u64 (told:Int),.bool last,.pointer (some ⟨gs,0,none⟩),.pointer (some ⟨gp,0,none⟩),ag,ag,.pointer (some ⟨gr,0,none⟩),v 6,v 7,ag,ag,v 0,v 1,v 2,v 3,v 4,v 5,ag,ag,ag,ag,ag,ag,ag,ag,ag,ag,ag,ag,ag,ag,ag,ag,ag,ag,ag,ag,ag,ag,ag,ag,ag,ag,ag],defers:=[]}) (by kernel_rfl) (by kernel_rfl) ?_;rw[e0,e1,e2,e3,e4,e5,e6,e7];exact⟨rfl,g 6,g 7,rfl,HF⟩
 ·rintro a W ⟨g9,dh,rfl,fU⟩;clear pY IP;dsimp only
  go_wp2
  have rp:∀k,(cQ M k V).length=16:=λk=>by rw[nA,Ph]
  go_loopw [19] (λi wr=>∃k:Nat,k≤10∧i= .int .i64 k∧ae (Wt w gs gr g9 dh s M (cQ M k V) wr)) (λi _=>10-(intOf i).toNat)
  case atStart=>exact⟨0,by omega,rfl,fU⟩
  case round=>
   clear fU;obtain⟨k,hk,rfl,hT⟩:=hrel
   by_cases dN:k<10
   ·have i1:(k:Int)<10:=by omega
    obtain⟨q,hq⟩:=aW (k*16);have HTd:ae (Wt w gs gr g9 dh s M (cQ M k V) wr.drew):=hT.out.drew;clear hT
    go_wp2
    refine ah (G:=bI dh) (by kernel_rfl) (bI.refl dh) (bI.trans dh) (by kernel_rfl) [(0,true),(1,true),(2,true),(3,true),(4,false)] rfl (by kernel_rfl) ?_;intro KK cA;generalize wr.drew=W1 at HTd
    have HTb:ae (∀w',bI dh W1 w'→ke w'):=λw' hw'=>(dG.o.below HTd.o.aY ux.o).but hw' (by have h1:=ux.o;have h2:=HTd.o.bv;omega);refine aa rfl (by rfl) (v:=.agg (M.map uv).toArray) (λw' hw'=>ar 168 _ rfl g9 rfl 168 _ (0,0) _ (HTd.o.m.but HTd.o.nm hw') underlying168 rfl IM.out) ?_;go_simp
    iterate 2 (refine aa rfl (by rfl) (v:=?_) ?_ ?_;rotate_left;(intro w' hw';clear hw';go_simp;with_reducible rfl);go_simp)
    refine aa rfl (by rfl) (v:=.agg (cE k).toArray) (λw' hw'=>bE 171 _ rfl 2 q (by rw[←hq];rfl) (cE k) _ ((HTb.o w' hw').row k dN q (by omega)) underlying171 rfl (by rw[Bg];kernel_rfl)) ?_;go_simp
    refine aU (f:=129) (args:=#[.pointer (some ⟨dh,0,none⟩),.agg (M.map uv).toArray,.agg (cE k).toArray]) rfl (by rfl) (by go_simp) ?_;refine(Qk dh k M _ W1 (rp k) vh dN HTd.o.v).mono ?_;rintro e w8 ⟨⟨v,rfl⟩,jm,ql⟩;refine⟨_,rfl,ql,?_⟩;have HT8:ae (Wt w gs gr g9 dh s M (cQ M (k+1) V) w8):=HTd.o.next jm ql;clear jm ql HTb HTd;go_simp
    refine az cA ?_
    go_wp2
    exact⟨⟨k+1,by omega,by go_num,HT8⟩,by simp[intOf];omega⟩
   ·have ek:k=10:=by omega
    have G':¬(k:Int)<10:=by omega
    obtain⟨U,hU⟩:=aW (cQ M 10 V);have hUl:U.length=16:=by rw[←hU];exact rp 10
    have HU:ae (cQ M 10 V=U):=hU;have sB:ae (Wt w gs gr g9 dh (vu s U 0) M U wr):=by have:=hT.out;rw[ek,hU] at this;exact this
    clear hT rp hU IM;have hfl:∀k,(vu s U k).length=8:=λk=>by rw[zM,hs]
    go_wp2
    go_loopw [28] (λi wr=>∃k:Nat,k≤8∧i= .int .i64 k∧ae (Wt w gs gr g9 dh (vu s U k) M U wr)) (λi _=>8-(intOf i).toNat)
    case atStart=>exact⟨0,by omega,rfl,sB⟩
    case round=>
     clear sB;obtain⟨j,hj,rfl,hT⟩:=hrel
     by_cases PW:j<8
     ·obtain⟨q,hq⟩:=aW (8+j);have e1:IntKind.i64.wrap ((8:Int)+(j:Int))=(q:Int):=by rw[IntKind.wrap_i64];omega
      have i1:(j:Int)<8:=by omega
      have i2:(j:Int)<16:=by omega
      have i3:(q:Int)<16:=by omega
      have Bo:=hT.out.drew;obtain⟨cs,fs⟩:=Bo.s.word j (by rw[hfl];omega);rw[KG s U j j (by omega)] at cs;obtain⟨c1,_⟩:=Bo.v.word j (by omega);obtain⟨c2,_⟩:=Bo.v.word q (by omega);obtain⟨x,hx⟩:=aW (bG s j);obtain⟨y,hy⟩:∃x,bG U j=x:=⟨_,rfl⟩;obtain⟨z,hz⟩:∃x,bG U q=x:=⟨_,rfl⟩;rw[hx] at cs;rw[hy] at c1;rw[hz] at c2;obtain⟨r,hr⟩:=aW (x^^^y^^^z);have HX:ae (bits .xor .u32 (x.toNat:Int) (bits .xor .u32 (y.toNat:Int) (z.toNat:Int))=(r.toNat:Int)):=by show _=_;rw[uk,uk,←BitVec.xor_assoc,hr]
      have Gf:=Bo.put j r;obtain⟨W1,fg⟩:∃W,wr.drew=W:=⟨_,rfl⟩;rw[fg] at cs fs c1 c2 Gf;obtain⟨W2,fV⟩:=aW (W1.setCell ⟨gs,j,none⟩ (uv r));rw[fV] at Gf;have vI:ae (Wt w gs gr g9 dh (vu s U (j+1)) M U W2):=by rw[vu,hx,hy,hq,hz,hr];exact Gf
      have fU:ae (wr.drew=W1):=fg;have fw:ae (W1.setCell ⟨gs,j,none⟩ (.int .u32 (r.toNat:Int))=W2):=fV;clear hT Bo Gf fg fV hx hy hz hr
      go_wp2
      refine ah (G:=bX) (by kernel_rfl) bX.refl bX.trans (by kernel_rfl) [(0,true),(1,true),(2,true),(3,true),(4,true),(5,true),(6,true),(7,true),(8,true),(9,true),(10,true),(11,true),(12,true),(13,false)] rfl (by kernel_rfl) ?_;intro KK cA;rw[fU.o]
      iterate 13 (refine aa rfl (by rfl) (v:=?_) ?_ ?_;rotate_left;(rintro w' rfl;go_simp;with_reducible rfl);go_simp)
      refine bp rfl (by rfl) (w':=W2) (by rw[←fw.o];go_simp;rw[HX.o]) (by kernel_rfl) ?_;go_simp
      refine az cA ?_
      go_wp2
      exact⟨⟨j+1,by omega,by go_num,vI⟩,by simp[intOf];omega⟩
     ·have ej:j=8:=by omega
      have hjr:¬(j:Int)<8:=by omega
      obtain⟨F,hF⟩:=aW (vu s U 8);have Pj:F.length=8:=by rw[←hF];exact hfl 8
      have HF:ae (lh s p told last=F):=by show _=_;rw[←hF,QZ s U hs,lh,HM.o,HV.o,HU.o]
      have HO:ae (Wt w gs gr g9 dh F M U wr):=by have:=hT.out;rw[ej,hF] at this;exact this
      have IB:ae ((prog.info? 141).map (·.size)=some (F.map uv).toArray.size):=jr (n:=8) (by kernel_rfl) F Pj;have xA:=aL wr gr _ _ (F.map uv) HO.o.res (by simp[Pj,AM]) (cj F);have bh:=setRow_heap wr gr _ (F.map uv).toArray _ _ HO.o.res;have bR:ae (Below w.heap.size w (wr.setRow gr (F.map uv).toArray)):=below_setRow HO.o.aY HO.o.br _;obtain⟨W4,fj⟩:=aW (wr.setRow gr (F.map uv).toArray);rw[fj] at xA bh bR;have cY:ae (W4.heap[gr]?=some (.cells (F.map uv).toArray 141 (0,0))):=bh;clear bh fj hT hF hfl IS
      go_wp2_with (first|refine wpList_load_row rfl 141 _ rfl gs rfl 141 _ (0,0) _ HO.o.s underlying141 rfl IB.out ?_)
      (try simp only[nu,Exit.then])
      refine bodyPost_ret (results_cell_row rfl _ _ gr 141 _ (0,0) _ rfl cY.o underlying141 rfl IB.out) rfl ?_;exact⟨by rw[HF.o],bR.o⟩
theorem xS (B x:aO):∀k,64*k≤B.length→cX (B++x) k=cX B k
 |0,_=>rfl
 |k+1,h=>by
  rw[cX,cX,xS B x k (by omega)]
  congr 1
  unfold fQ;rw[List.drop_append_of_le_length (by omega),List.take_append_of_le_length (by simp;omega)]
theorem Q0 (n a:Nat)(h1:64*a<n)(h2:n≤64*a+64):qj n=a:=by unfold qj;omega
def fJ (m:List (BitVec 32))(t:Nat)(p:aO)(h:Nat):bK:=m.map uv++([.int .u64 (t:Int)]++(p.map bv++[.int .i64 (h:Int)]))
structure Hs (w:aw)(g:Nat)(m:List (BitVec 32))(t:Nat)(p:aO)(h:Nat):Prop where
 row:w.heap[g]?=some (.cells (fJ m t p h).toArray 145 (0,0))
 m8:m.length=8
 Nj:p.length=64
theorem Hs.lt {w:aw}{g t h:Nat}{m:List (BitVec 32)}{p:aO}(x:Hs w g m t p h):g<w.heap.size:=(gD.1 x.row).1
theorem Hs.cell {w:aw}{g t h:Nat}{m:List (BitVec 32)}{p:aO}(x:Hs w g m t p h)(i:Nat):w.cell? ⟨g,i,none⟩=(fJ m t p h)[i]?∧w.frozen? ⟨g,i,none⟩=false:=by refine⟨?_,frozen_of_row w g i _ _ x.row⟩;rw[cell_of_row w g i _ _ (0,0) x.row];simp
theorem Hs.told {w:aw}{g t h:Nat}{m:List (BitVec 32)}{p:aO}(x:Hs w g m t p h):w.cell? ⟨g,8,none⟩=some (.int .u64 (t:Int))∧w.frozen? ⟨g,8,none⟩=false:=by refine⟨?_,(x.cell 8).2⟩;rw[(x.cell 8).1];simp[fJ,x.m8]
theorem Hs.held {w:aw}{g t h:Nat}{m:List (BitVec 32)}{p:aO}(x:Hs w g m t p h):w.cell? ⟨g,73,none⟩=some (.int .i64 (h:Int))∧w.frozen? ⟨g,73,none⟩=false:=by refine⟨?_,(x.cell 73).2⟩;rw[(x.cell 73).1];simp[fJ,x.m8,x.Nj]
theorem Hs.made {w:aw}{g t h:Nat}{m:List (BitVec 32)}{p:aO}(x:Hs w g m t p h):∀j v,(m.map uv)[j]?=some v→w.cell? ⟨g,0+j,none⟩=some v:=
 dF [] (m.map uv) _ (by have:=x.row;simpa[fJ] using this) 0 rfl
theorem Hs.last {w:aw}{g t h:Nat}{m:List (BitVec 32)}{p:aO}(x:Hs w g m t p h):∀j v,(p.map bv)[j]?=some v→w.cell? ⟨g,9+j,none⟩=some v:=
 dF (m.map uv++[.int .u64 (t:Int)]) (p.map bv) [.int .i64 (h:Int)] (by have:=x.row;simpa[fJ] using this) 9 (by simp[x.m8])
theorem Hs.but {w w':aw}{g g' t h:Nat}{m:List (BitVec 32)}{p:aO}(x:Hs w g m t p h)(eL:g≠g')(hb:w.grownBy w' (some g')):Hs w' g m t p h:=
 ⟨by rw[hb.block g x.lt (λe=>eL (by cases e;rfl))];exact x.row,x.m8,x.Nj⟩
theorem Hs.below {B:Nat}{w w':aw}{g t h:Nat}{m:List (BitVec 32)}{p:aO}(x:Hs w g m t p h)(hb:Below B w w')(hg:g<B):Hs w' g m t p h:=
 ⟨by rw[hb.block g hg];exact x.row,x.m8,x.Nj⟩
theorem Hs.later {w w':aw}{g t h:Nat}{m:List (BitVec 32)}{p:aO}(x:Hs w g m t p h)(hb:Below w.heap.size w w'):Hs w' g m t p h:=x.below hb x.lt
theorem Hs.HJ {w:aw}{g t h:Nat}{m:List (BitVec 32)}{p:aO}(x:Hs w g m t p h)(h':Nat):Hs (w.setCell ⟨g,73,none⟩ (.int .i64 (h':Int))) g m t p h':=by
 refine⟨?_,x.m8,x.Nj⟩;rw[heap_setCell_same w g 73 _ _ _ x.row]
 congr 2
 simp[fJ,x.m8,x.Nj]
theorem Hs.Pl {w:aw}{g t h:Nat}{m:List (BitVec 32)}{p:aO}(x:Hs w g m t p h)(t':Nat):Hs (w.setCell ⟨g,8,none⟩ (.int .u64 (t':Int))) g m t' p h:=by
 refine⟨?_,x.m8,x.Nj⟩;rw[heap_setCell_same w g 8 _ _ _ x.row]
 congr 2
 simp[fJ,x.m8]
theorem Hs.Yu {w:aw}{g t h:Nat}{m:List (BitVec 32)}{p:aO}(x:Hs w g m t p h)(m':List (BitVec 32))(hm:m'.length=8):
  (storeCells ⟨g,0,none⟩ (m'.map uv)).run prog w= .ok () (w.setRow g (fJ m' t p h).toArray)∧Hs (w.setRow g (fJ m' t p h).toArray) g m' t p h:=by
 have xA:=fu (P:=prog) g 0 _ (m'.map uv) 0 _ w x.row (by simp[fJ,x.m8,hm]) (cj m');have e:(fJ m t p h).toArray.toList.take (0+0)++m'.map uv++(fJ m t p h).toArray.toList.drop (0+0+(m'.map uv).length)=fJ m' t p h:=by simp[fJ,hm,x.m8]
 rw[e] at xA;exact⟨xA,setRow_heap w g _ _ _ _ x.row,hm,x.Nj⟩
theorem Hs.Pm {w:aw}{g t h:Nat}{m:List (BitVec 32)}{p:aO}(x:Hs w g m t p h)(q:aO)(hq:h+q.length≤64):
  ((fJ m t p h).toArray.toList.take (9+h)++q.map bv++(fJ m t p h).toArray.toList.drop (9+h+(q.map bv).length))=fJ m t (p.take h++q++p.drop (h+q.length)) h∧
  Hs (w.setRow g (fJ m t (p.take h++q++p.drop (h+q.length)) h).toArray) g m t (p.take h++q++p.drop (h+q.length)) h:=by
 have h8:=x.m8;have h64:=x.Nj;refine⟨?_,setRow_heap w g _ _ _ _ x.row,x.m8,by simp;omega⟩;have e1:(fJ m t p h).take (9+h)=m.map uv++([.int .u64 (t:Int)]++(p.take h).map bv):=by unfold fJ;rw[List.take_append,su (by simp;omega),List.length_map,h8,show 9+h-8=h+1 by omega,List.take_append,su (by simp),List.length_singleton,Nat.add_sub_cancel,List.take_append_of_le_length (by simp;omega),List.map_take]
 have e2:(fJ m t p h).drop (9+h+q.length)=(p.drop (h+q.length)).map bv++[.int .i64 (h:Int)]:=by unfold fJ;rw[List.drop_append,List.drop_eq_nil_of_le (by simp;omega),List.length_map,h8,show 9+h+q.length-8=h+q.length+1 by omega,List.drop_append,List.drop_eq_nil_of_le (by simp),List.length_singleton,Nat.add_sub_cancel,List.drop_append_of_le_length (by simp;omega),List.map_drop];simp
 simp only[List.length_map];rw[e1,e2];simp[fJ]
structure HX (w:aw)(g a:Nat)(C p:aO):Prop where
 hs:Hs w g (cX C a) C.length p (C.length-64*a)
 lo:64*a≤C.length
 hi:C.length≤64*a+64
 eq:p.take (C.length-64*a)=C.drop (64*a)
def fG (w:aw)(g:Nat)(C:aO):Prop:=∃a p,qj C.length=a∧HX w g a C p
theorem fG.later {w w':aw}{g:Nat}{C:aO}(h:fG w g C)(hb:Below w.heap.size w w'):fG w' g C:=by obtain⟨a,p,h1,h2⟩:=h;exact⟨a,p,h1,h2.hs.later hb,h2.lo,h2.hi,h2.eq⟩
theorem fG.below {B:Nat}{w w':aw}{g:Nat}{C:aO}(h:fG w g C)(hb:Below B w w')(hg:g<B):fG w' g C:=by obtain⟨a,p,h1,h2⟩:=h;exact⟨a,p,h1,h2.hs.below hb hg,h2.lo,h2.hi,h2.eq⟩
theorem fG.but {w w':aw}{g g':Nat}{C:aO}(h:fG w g C)(eL:g≠g')(hb:w.grownBy w' (some g')):fG w' g C:=by obtain⟨a,p,h1,h2⟩:=h;exact⟨a,p,h1,h2.hs.but eL hb,h2.lo,h2.hi,h2.eq⟩
theorem fG.lt {w:aw}{g:Nat}{C:aO}(h:fG w g C):g<w.heap.size:=by obtain⟨a,p,h1,h2⟩:=h;exact h2.hs.lt
theorem Q4 (C p:aO)(a:Nat)(hp:p.length=64)(hC:C.length=64*a+64)(heq:p.take (C.length-64*a)=C.drop (64*a)):lh (cX C a) p C.length false=cX C (a+1):=by
 rw[cX];have e1:fQ C (64*a) 64=p:=by unfold fQ;rw[←heq,hC,show 64*a+64-64*a=64 by omega,List.take_take,Nat.min_self,su (by omega)]
 rw[e1,hC,show 64*(a+1)=64*a+64 by omega]
theorem Gi {w:aw}{g a:Nat}{C p q:aO}(lo:64*a≤C.length)(eq:p.take (C.length-64*a)=C.drop (64*a))(hp:p.length=64)(hq:C.length-64*a+q.length≤64)(hq0:0<q.length)
  (x:Hs w g (cX C a) (C++q).length (p.take (C.length-64*a)++q++p.drop (C.length-64*a+q.length)) ((C++q).length-64*a)):fG w g (C++q):=by
 refine⟨a,p.take (C.length-64*a)++q++p.drop (C.length-64*a+q.length),Q0 _ a (by simp;omega) (by simp;omega),?_,by simp;omega,by simp;omega,?_⟩
 ·rw[xS C q a lo];exact x
 ·have hl:(C++q).length-64*a=(C.length-64*a)+q.length:=by simp;omega
  rw[hl,List.take_append_of_le_length (by simp;omega),su (by simp;omega),eq,List.drop_append_of_le_length lo]
def xw (g i:Nat)(w w':aw):Prop:=w.grownBy w' (some g)∧w'.cell? ⟨g,i,none⟩=w.cell? ⟨g,i,none⟩
theorem xw.refl (g i:Nat)(w:aw):xw g i w w:=⟨cR w _,rfl⟩
theorem xw.trans (g i:Nat)(a b c:aw)(h:xw g i a b)(k:xw g i b c):xw g i a c:=⟨World.grownBy.trans h.1 k.1,by rw[k.2,h.2]⟩
def Um (v:Value):Nat:=match v with| .slice _ n _=>n|_=>0
theorem gX (a:bW)(n c:Nat):Um (.slice a n c)=n:=rfl
structure WrS (w:aw)(g:Nat)(B l:aO)(k:Nat)(a:bW)(n c:Nat)(wr:aw):Prop where
 hash:fG wr g (B++l.take k)
 src:bj wr a n (l.drop k)
 nil:a=none→c=0
 own:0<n→∀b o f,a=some ⟨b,o,f⟩→b≠g
 len:n+k=l.length
 le:n≤c
 cm:c≤maxLen
 grown:w.grownBy wr (some g)
theorem qw (g:Nat)(B:aO)(a:bW)(len cap:Nat)(l:aO)(w:aw)(hH:fG w g B)(hB:bj w a len l)(rk:a=none→cap=0)(ff:0<len→∀b o f,a=some ⟨b,o,f⟩→b≠g)(ig:len≤cap)(m7:cap≤maxLen)
  (xH:B.length+len≤1000000000) (ec:ke w) (hg:g≠1∧g≠2):
  Calls prog 79 #[.pointer (some ⟨g,0,none⟩),.slice a len cap] w λe w'=>(∃v,e= .returned v)∧fG w' g (B++l)∧w.grownBy w' (some g):=by
 have hl:l.length=len:=hB.1;have dG:ae (ke w):=ec;have pX:ae (WrS w g B l 0 a len cap w):=⟨by simpa using hH,hB,rk,ff,by omega,ig,m7,cR w _⟩;clear ec hH hB rk ff
 go_enter func79,ntmps79
 go_wp2
 go_loopw [1] (λv wr=>∃(k:Nat) (a':bW) (n c:Nat),v= .slice a' n c∧ae (WrS w g B l k a' n c wr)) (λv _=>Um v)
 case atStart=>exact⟨0,a,len,cap,rfl,pX⟩
 case round=>
  clear pX;obtain⟨k,a',n,c,rfl,hW⟩:=hrel;have hlen:=hW.out.len
  by_cases hn:0<n
  ·have Un:(0:Int)<(n:Int):=by omega
   obtain⟨b,off,rfl⟩:∃b off,a'=some ⟨b,off,none⟩:=by
    rcases hW.out.src.2 with h|⟨b,off,e,_⟩
    ·omega
    ·exact⟨b,off,e⟩
   have pW:b≠g:=hW.out.own hn b off none rfl;obtain⟨C,hC⟩:=aW (B++l.take k);have QI:C.length=B.length+k:=by rw[←hC];simp;omega
   have hcn:=hW.out.le;have ab9:c≤9223372036854775807:=by have:=hW.out.cm;unfold maxLen at this;exact this
   have hH:=hW.out.hash;rw[hC] at hH;obtain⟨q,p,hq,hX⟩:=hH;have HC:ae (B++l.take k=C):=hC;obtain⟨h,hh⟩:=aW (C.length-64*q);have QL:=hX.lo;have hhi:=hX.hi;have Fv:=hX.hs.Nj;obtain⟨ch,fh⟩:=hX.hs.held;rw[hh] at ch;clear hC hq
   by_cases hf:h=64
   ·have Sr:(h:Int)=64:=by omega
    have hS:=hX.hs;rw[hh] at hS;obtain⟨M,hM⟩:=aW (lh (cX C q) p C.length false);have HM':ae (M=cX C (q+1)):=by rw[←hM];exact Q4 C p q Fv (by omega) hX.eq
    have vh:M.length=8:=by rw[←hM,gQ]
    have HM:ae (lh (cX C q) p C.length false=M):=hM;obtain⟨mm,hmm⟩:=aW (cX C q);rw[hmm] at hS HM;have Nk:mm.length=8:=hS.m8;obtain⟨T,hT⟩:=aW (C.length);rw[hT] at hS HM;have HS:ae (Hs wr g mm T p h):=hS;have HT:ae (C.length=T):=hT;have sS:T<18446744073709551616:=by omega
    have hCq:ae (C.length=64*q+64):=by show _=_;omega
    clear hmm hT;have IM:ae ((prog.info? 141).map (·.size)=some (mm.map uv).length):=by
     have e1:(prog.info? 141).map (·.size)=some 8:=by kernel_rfl
     show _=_;rw[e1];simp[Nk]
    have IP:ae ((prog.info? 143).map (·.size)=some (p.map bv).length):=by
     have e1:(prog.info? 143).map (·.size)=some 64:=by kernel_rfl
     show _=_;rw[e1];simp[Fv]
    have ahm:=af hW.out.src;have HGr:=af hW.out.grown;have HCm:=af hW.out.cm;have HXe:=af hX.eq;clear hX hS hW hM
    go_wp2
    obtain⟨W,kY⟩:=aW (wr.drew);have ij:ae (wr.drew=W):=kY;have hdr:Below wr.heap.size wr W:=by rw[←kY];exact gl
    have pP:ae (Hs W g mm T p h):=HS.o.later hdr;have L1:ae (ke W):=(dG.o.but HGr.o hg).later hdr;have HBw:ae (wr.grownBy W (some g)):=bI.below g hdr;clear kY hdr;refine j6 (G:=bM) (by kernel_rfl) bM.refl bM.trans (by kernel_rfl) [(0,true),(1,true),(2,true),(3,true),(4,true),(5,true),(6,true),(7,true),(8,true),(9,true),(10,true),(11,true),(12,true),(13,false),(14,true),(15,true)] 16 _ rfl ((Array.replicate 17 false).mapIdx λi _=>i<16) rfl (by kernel_rfl) (by kernel_rfl) (by kernel_rfl) (by kernel_rfl) ?_;intro KK cA;rw[ij.o]
    iterate 4 (refine aa rfl (by rfl) (v:=?_) ?_ ?_;rotate_left;(intro w' hw';clear hw';go_simp;with_reducible rfl);go_simp)
    refine aa rfl (by rfl) (v:=.agg (mm.map uv).toArray) (λw' hw'=>bE 141 _ rfl g 0 rfl (mm.map uv) _ (pP.o.later hw').made underlying141 rfl IM.out) ?_;go_simp
    iterate 3 (refine aa rfl (by rfl) (v:=?_) ?_ ?_;rotate_left;(intro w' hw';clear hw';go_simp;with_reducible rfl);go_simp)
    refine aa rfl (by rfl) (v:=.agg (p.map bv).toArray) (λw' hw'=>bE 143 _ rfl g 9 rfl (p.map bv) _ (pP.o.later hw').last underlying143 rfl IP.out) ?_;go_simp
    iterate 4 (refine aa rfl (by rfl) (v:=?_) ?_ ?_;rotate_left;(intro w' hw';have ct:=(pP.o.later hw').told.1;clear hw';go_simp;with_reducible rfl);go_simp)
    refine aU (f:=102) (args:=#[.agg (mm.map uv).toArray,.agg (p.map bv).toArray,.int .u64 (T:Int),.bool false]) rfl (by rfl) (by go_simp) ?_;refine(AN mm p T false W Nk Fv L1.o sS).mono ?_;rintro e w8 ⟨rfl,i9⟩;refine⟨_,rfl,i9,?_⟩;rw[HM.o];obtain⟨xA,hS8⟩:=(pP.o.later i9).Yu M vh;obtain⟨W9,L6⟩:=aW (w8.setRow g (fJ M T p h).toArray);rw[L6] at xA hS8;have Pd:ae (wr.grownBy W9 (some g)):=by rw[←L6];exact(World.grownBy.trans HBw.o (bI.below g i9)).trans (bI.setRow w8 g _)
    have DL:ae (Hs W9 g M T p h):=hS8;clear hS8 L6 i9 pP L1 HBw ij;go_simp
    iterate 2 (refine aa rfl (by rfl) (v:=?_) ?_ ?_;rotate_left;(intro w' hw';clear hw';go_simp;with_reducible rfl);go_simp)
    refine cA.out _ _ W9 (by rfl) (by go_simp) ?_;clear xA;go_simp
    clear ch fh;obtain⟨ch9,fh9⟩:=DL.o.held;obtain⟨Wz,hWz⟩:=aW (W9.setCell ⟨g,73,none⟩ (.int .i64 0));have HSz:ae (Hs Wz g M T p 0):=by rw[←hWz];exact DL.o.HJ 0
    have Yv:ae (wr.grownBy Wz (some g)):=by rw[←hWz];exact Pd.o.trans (bI.setCell W9 g 73 _)
    have HWz:ae (W9.setCell ⟨g,73,none⟩ (.int .i64 0)=Wz):=hWz;clear hWz
    go_wp2
    rw[HWz.o];have asU:=hCq.out;clear ch9 fh9 HWz DL Pd HS;have H0:ae (Hs Wz g (cX C (q+1)) C.length p 0):=by rw[HT.o,←HM'.o];exact HSz.o
    have al3:64*(q+1)≤C.length:=by omega
    have hh':C.length-64*(q+1)=0:=by omega
    have HEq:ae (p.take (C.length-64*(q+1))=C.drop (64*(q+1))):=by show _=_;rw[hh',List.take_zero,List.drop_eq_nil_of_le (by omega)]
    have Yw:0<64:=by omega
    have KH:ae (bj Wz (some ⟨b,off,none⟩) n (l.drop k)):=ahm.o.but Yv.o pW;have wH:ae (w.grownBy Wz (some g)):=HGr.o.trans Yv.o;clear HSz Yv HM HM' vh Nk IM IP HXe ahm HGr QL hhi Sr hf hh HT hCq;obtain⟨m,hm⟩:=aW (min (64-0) n);have Hw:0<m:=by omega
    have sC:0+m≤64:=by omega
    have nO:m≤n:=by omega
    have xx:Nat.min n (64-0)=m:=by rw[←hm];exact Nat.min_comm _ _
    obtain⟨Q,hQ⟩:=aW ((l.drop k).take m);have Nl:Q.length=m:=by rw[←hQ];simp;omega
    obtain⟨W,kY⟩:=aW (Wz.drew);have ij:ae (Wz.drew=W):=kY;have hdr:Wz.grownBy W (some g):=by rw[←kY];exact jq _ _
    have pP:ae (Hs W g (cX C (q+1)) C.length p 0):=by rw[←kY];exact⟨H0.o.row,H0.o.m8,H0.o.Nj⟩
    have DM:ae (bj W (some ⟨b,off,none⟩) n (l.drop k)):=KH.o.but hdr pW;have sG:ae (w.grownBy W (some g)):=wH.o.trans hdr;have KI:∀w',xw g 73 W w'→w'.cell? ⟨g,73,none⟩=some (.int .i64 ((0:Nat):Int)):=λw' hw'=>by rw[hw'.2];exact pP.o.held.1
    obtain⟨eP,Q5⟩:=pP.o.Pm Q (by omega);have lY:=run_copy_row prog W 22 22 3 5 g (9+0) (64-0) (64-0) ⟨b,off,none⟩ n c _ _ (Q.map bv) underlying22 Tryz.info1U8 pP.o.row
     (by rw[List.length_map,Nl];exact xx.symm) (λj v hj=>(DM.o.cut nO).cells _ rfl j v (by rw[hQ];exact hj)) (by simp[fJ,pP.o.m8,pP.o.Nj,Nl];omega) (bd _)
    rw[eP] at lY;rw[List.length_map,Nl] at lY;rw[Nl] at Q5;obtain⟨P1,Yx⟩:=aW (p.take 0++Q++p.drop (0+m));rw[Yx] at Q5;rw[Yx] at lY;obtain⟨W1,fg⟩:=aW (W.setRow g (fJ (cX C (q+1)) C.length P1 0).toArray);rw[fg] at lY Q5;have mL:ae (xw g 73 W W1):=⟨by rw[←fg];exact bI.setRow W g _,by rw[Q5.held.1,pP.o.held.1]⟩;have gg:ae (Hs W1 g (cX C (q+1)) C.length P1 0):=Q5;obtain⟨T,hT⟩:=aW (C.length);obtain⟨h2,hh2⟩:=aW (0+m);obtain⟨t2,Mu⟩:=aW (T+m);have s1:((0:Nat):Int)≤64:=by omega
    have s1':((0:Nat):Int)<64:=by omega
    have s2:¬64=0:=by omega
    have s3:¬64≤0:=by omega
    simp only[Nat.add_zero,Nat.sub_zero] at lY;clear hdr kY Q5 eP fg H0;refine ah (G:=xw g 73) (by kernel_rfl) (xw.refl g 73) (xw.trans g 73) (by kernel_rfl) [(0,true),(1,true),(2,true),(3,true),(4,true),(5,true),(6,true),(7,true),(8,true),(9,false),(10,true)] rfl (by kernel_rfl) ?_;intro KQ hKQ;rw[ij.o]
    iterate 9 (refine aa rfl (by rfl) (v:=?_) ?_ ?_;rotate_left;(intro w' hw';have q1:=KI w' hw';clear hw';go_simp;with_reducible rfl);go_simp)
    refine fZ (w':=W1) (v:=goInt m) rfl (by rfl) (by go_simp) mL.o ?_;clear lY KI;go_simp
    iterate 1 (refine aa rfl (by rfl) (v:=?_) ?_ ?_;rotate_left;(intro w' hw';clear hw';go_simp;with_reducible rfl);go_simp)
    refine az hKQ ?_;have jR:ae (w.grownBy W1 (some g)):=sG.o.trans mL.o.1;have KJ:ae (bj W1 (some ⟨b,off,none⟩) n (l.drop k)):=DM.o.but mL.o.1 pW;clear mL sG DM pP ij;obtain⟨c1,f1⟩:=gg.o.held;obtain⟨c2,f2⟩:=gg.o.told;have oE:=gg.o.HJ h2;obtain⟨W2,fV⟩:=aW (W1.setCell ⟨g,73,none⟩ (.int .i64 (h2:Int)));rw[fV] at oE;have vP:=oE.Pl t2;obtain⟨W3,nV⟩:=aW (W2.setCell ⟨g,8,none⟩ (.int .u64 (t2:Int)));rw[nV] at vP;have fP:W1.grownBy W3 (some g):=by rw[←nV,←fV];exact World.grownBy.trans (bI.setCell W1 g 73 _) (bI.setCell _ g 8 _)
    have Uo:ae (fG W3 g (C++Q)):=by
     refine Gi (p:=p) al3 HEq.o Fv (by omega) (by omega) ?_;have x1:(C++Q).length=t2:=by rw[List.length_append,Nl,hT];exact Mu
     have x2:t2-64*(q+1)=h2:=by omega
     rw[x1,x2,hh',Nl,Yx];exact vP
    have HTk:ae (B++l.take (k+m)=C++Q):=by show _=_;rw[←HC.o,←hQ,List.append_assoc,←List.take_add]
    have Av:ae (w.grownBy W3 (some g)):=jR.o.trans fP;have Up:ae (bj W3 (some ⟨b,off,none⟩) n (l.drop k)):=KJ.o.but fP pW;have oZ:ae ((W1.setCell ⟨g,73,none⟩ (.int .i64 (h2:Int))).setCell ⟨g,8,none⟩ (.int .u64 (t2:Int))=W3):=by rw[fV,nV];exact rfl
    rw[hT] at c2;obtain rfl:m=h2:=by omega
    have n2:(T:Int)+(m:Int)=(t2:Int):=by omega
    have n3:(m:Int)≤(n:Int):=by omega
    have n6:IntKind.u64.wrap (t2:Int)=(t2:Int):=by rw[IntKind.wrap_u64];omega
    have n4:(m:Int)≤(c:Int):=by omega
    have n5:(m:Int)≤9223372036854775807:=by omega
    clear gg oE vP fP fV nV jR KJ KH wH hQ Yx hT hm xx Nl hh2 Mu HEq HC
    by_cases acq:c=m
    ·subst acq;have uj:n=c:=by omega
     go_wp2
     rw[oZ.o];refine⟨⟨k+c,some ⟨b,off,none⟩,0,0,rfl,⟨by rw[HTk.o];exact Uo.o,⟨by simp;omega,.inl rfl⟩,(λe=>by cases e),(λh0=>absurd h0 (Nat.lt_irrefl 0)),by omega,di _,Nat.zero_le _,Av.o⟩⟩,?_⟩;rw[gX,gX];exact hn
    ·go_wp2
     rw[oZ.o];refine⟨⟨k+m,some ⟨b,off+m,none⟩,n-m,c-m,rfl,⟨by rw[HTk.o];exact Uo.o,?_,(λe=>by cases e),(λ_ b' o' f' e=>by cases e;exact pW),by omega,by omega,kx (Nat.sub_le _ _) HCm.o,Av.o⟩⟩,?_⟩
     ·have:=Up.o.sub (n:=m) (q:=n) nO (di _);rw[List.drop_drop,su (by simp;omega)] at this;exact this
     ·rw[gX,gX];omega
   ·have Sr:¬(h:Int)=64:=by omega
    have H0:ae (Hs wr g (cX C q) C.length p h):=by have:=hX.hs;rw[hh] at this;exact this
    have HEq:ae (p.take (C.length-64*q)=C.drop (64*q)):=hX.eq;have KH:ae (bj wr (some ⟨b,off,none⟩) n (l.drop k)):=hW.out.src;have wH:ae (w.grownBy wr (some g)):=hW.out.grown;have HCm:=af hW.out.cm;have Yw:h<64:=by omega
    clear hX hW
    go_wp2
    clear ch fh Sr;obtain⟨m,hm⟩:=aW (min (64-h) n);have Hw:0<m:=by omega
    have sC:h+m≤64:=by omega
    have nO:m≤n:=by omega
    have xx:Nat.min n (64-h)=m:=by rw[←hm];exact Nat.min_comm _ _
    obtain⟨Q,hQ⟩:=aW ((l.drop k).take m);have Nl:Q.length=m:=by rw[←hQ];simp;omega
    obtain⟨W,kY⟩:=aW (wr.drew);have ij:ae (wr.drew=W):=kY;have hdr:wr.grownBy W (some g):=by rw[←kY];exact jq _ _
    have pP:ae (Hs W g (cX C q) C.length p h):=by rw[←kY];exact⟨H0.o.row,H0.o.m8,H0.o.Nj⟩
    have DM:ae (bj W (some ⟨b,off,none⟩) n (l.drop k)):=KH.o.but hdr pW;have sG:ae (w.grownBy W (some g)):=wH.o.trans hdr;have KI:∀w',xw g 73 W w'→w'.cell? ⟨g,73,none⟩=some (.int .i64 (h:Int)):=λw' hw'=>by rw[hw'.2];exact pP.o.held.1
    obtain⟨eP,Q5⟩:=pP.o.Pm Q (by omega);have lY:=run_copy_row prog W 22 22 3 5 g (9+h) (64-h) (64-h) ⟨b,off,none⟩ n c _ _ (Q.map bv) underlying22 Tryz.info1U8 pP.o.row
     (by rw[List.length_map,Nl];exact xx.symm) (λj v hj=>(DM.o.cut nO).cells _ rfl j v (by rw[hQ];exact hj)) (by simp[fJ,pP.o.m8,pP.o.Nj,Nl];omega) (bd _)
    rw[eP] at lY;rw[List.length_map,Nl] at lY;rw[Nl] at Q5;obtain⟨P1,Yx⟩:=aW (p.take h++Q++p.drop (h+m));rw[Yx] at Q5;rw[Yx] at lY;obtain⟨W1,fg⟩:=aW (W.setRow g (fJ (cX C q) C.length P1 h).toArray);rw[fg] at lY Q5;have mL:ae (xw g 73 W W1):=⟨by rw[←fg];exact bI.setRow W g _,by rw[Q5.held.1,pP.o.held.1]⟩;have gg:ae (Hs W1 g (cX C q) C.length P1 h):=Q5;obtain⟨T,hT⟩:=aW (C.length);obtain⟨h2,hh2⟩:=aW (h+m);obtain⟨t2,Mu⟩:=aW (T+m);have s1:(h:Int)≤64:=by omega
    have s1':(h:Int)<64:=by omega
    have s2:¬64=h:=by omega
    have s3:¬64≤h:=by omega
    clear hdr kY Q5 eP fg H0;refine ah (G:=xw g 73) (by kernel_rfl) (xw.refl g 73) (xw.trans g 73) (by kernel_rfl) [(0,true),(1,true),(2,true),(3,true),(4,true),(5,true),(6,true),(7,true),(8,true),(9,false),(10,true)] rfl (by kernel_rfl) ?_;intro KQ hKQ;rw[ij.o]
    iterate 9 (refine aa rfl (by rfl) (v:=?_) ?_ ?_;rotate_left;(intro w' hw';have q1:=KI w' hw';clear hw';go_simp;with_reducible rfl);go_simp)
    refine fZ (w':=W1) (v:=goInt m) rfl (by rfl) (by go_simp) mL.o ?_;clear lY KI;go_simp
    iterate 1 (refine aa rfl (by rfl) (v:=?_) ?_ ?_;rotate_left;(intro w' hw';clear hw';go_simp;with_reducible rfl);go_simp)
    refine az hKQ ?_;have jR:ae (w.grownBy W1 (some g)):=sG.o.trans mL.o.1;have KJ:ae (bj W1 (some ⟨b,off,none⟩) n (l.drop k)):=DM.o.but mL.o.1 pW;clear mL sG DM pP ij;obtain⟨c1,f1⟩:=gg.o.held;obtain⟨c2,f2⟩:=gg.o.told;have oE:=gg.o.HJ h2;obtain⟨W2,fV⟩:=aW (W1.setCell ⟨g,73,none⟩ (.int .i64 (h2:Int)));rw[fV] at oE;have vP:=oE.Pl t2;obtain⟨W3,nV⟩:=aW (W2.setCell ⟨g,8,none⟩ (.int .u64 (t2:Int)));rw[nV] at vP;have fP:W1.grownBy W3 (some g):=by rw[←nV,←fV];exact World.grownBy.trans (bI.setCell W1 g 73 _) (bI.setCell _ g 8 _)
    have Uo:ae (fG W3 g (C++Q)):=by
     refine Gi (p:=p) QL HEq.o Fv (by omega) (by omega) ?_;have x1:(C++Q).length=t2:=by rw[List.length_append,Nl,hT];exact Mu
     have x2:t2-64*q=h2:=by omega
     rw[x1,x2,hh,Nl,Yx];exact vP
    have HTk:ae (B++l.take (k+m)=C++Q):=by show _=_;rw[←HC.o,←hQ,List.append_assoc,←List.take_add]
    have Av:ae (w.grownBy W3 (some g)):=jR.o.trans fP;have Up:ae (bj W3 (some ⟨b,off,none⟩) n (l.drop k)):=KJ.o.but fP pW;have oZ:ae ((W1.setCell ⟨g,73,none⟩ (.int .i64 (h2:Int))).setCell ⟨g,8,none⟩ (.int .u64 (t2:Int))=W3):=by rw[fV,nV];exact rfl
    rw[hT] at c2;have n1:(h:Int)+(m:Int)=(h2:Int):=by omega
    have n2:(T:Int)+(m:Int)=(t2:Int):=by omega
    have n3:(m:Int)≤(n:Int):=by omega
    have n6:IntKind.u64.wrap (t2:Int)=(t2:Int):=by rw[IntKind.wrap_u64];omega
    have n4:(m:Int)≤(c:Int):=by omega
    have n5:(m:Int)≤9223372036854775807:=by omega
    clear gg oE vP fP fV nV jR KJ KH wH hQ Yx hT hm xx Nl hh2 Mu HEq HC
    by_cases acq:c=m
    ·subst acq;have uj:n=c:=by omega
     go_wp2
     rw[oZ.o];refine⟨⟨k+c,some ⟨b,off,none⟩,0,0,rfl,⟨by rw[HTk.o];exact Uo.o,⟨by simp;omega,.inl rfl⟩,(λe=>by cases e),(λh0=>absurd h0 (Nat.lt_irrefl 0)),by omega,di _,Nat.zero_le _,Av.o⟩⟩,?_⟩;rw[gX,gX];exact hn
    ·go_wp2
     rw[oZ.o];refine⟨⟨k+m,some ⟨b,off+m,none⟩,n-m,c-m,rfl,⟨by rw[HTk.o];exact Uo.o,?_,(λe=>by cases e),(λ_ b' o' f' e=>by cases e;exact pW),by omega,by omega,kx (Nat.sub_le _ _) HCm.o,Av.o⟩⟩,?_⟩
     ·have:=Up.o.sub (n:=m) (q:=n) nO (di _);rw[List.drop_drop,su (by simp;omega)] at this;exact this
     ·rw[gX,gX];omega
  ·have hn0:n=0:=by omega
   have Un:¬(0:Int)<(n:Int):=by omega
   have HF:ae (fG wr g (B++l)):=by have:=hW.out.hash;rw[su (by omega)] at this;exact this
   have HG:ae (w.grownBy wr (some g)):=hW.out.grown;clear hW
   go_wp2
   go_end0
   exact⟨⟨_,rfl⟩,HF.o,HG.o⟩
def iL:aO:=cz 64 0
theorem Nm (S:List (BitVec 32))(hS:S.length=8):prog.built 145 [(0,.agg (S.map uv).toArray)]=some (fJ S 0 iL 0).toArray:=by
 have h:∀parts,prog.built 145 parts=Instr.fill (#[(0,8),(8,1),(9,64),(73,1)][·]?) (fJ (cz 8 0#32) 0 iL 0).toArray parts:=λparts=>by kernel_rfl
 obtain⟨Z,hZ⟩:=aW (cz 8 0#32);have Jy:Z.length=8:=by rw[←hZ,List.length_replicate]
 rw[h,hZ,jB _ _ 0 0 (S.map uv) _ (by simp[hS]) (by simp[fJ,Jy,hS])];simp only[Instr.fill,List.take_zero,List.nil_append,List.length_map,hS,Nat.zero_add]
 congr 2
 simp[fJ,Jy]
theorem KN (S:List (BitVec 32))(hS:S.length=8){ops:Array Oper}{rest:List Oper}{o:Oper}{a:Act}{w:aw}{Q:Exit→Act→aw→Prop}(hg:o.guard=none)(x:Operand)(ho:o.op= .build 145 #[(0,x)])
  (hx:a.eval x= .agg (S.map uv).toArray)
  (h:wpList prog ops Q rest (a.put o.dst (.agg (fJ S 0 iL 0).toArray)) w):wpList prog ops Q (o::rest) a w:=
 wpList_buildTo hg _ _ ho _ rfl (fJ S 0 iL 0).toArray (by simp[hx,Nm S hS]) h
theorem DN (w:aw)(ec:ke w):
  Calls prog 78 #[] w λe w'=>∃g,e= .returned (.pointer (some ⟨g,0,none⟩))∧w.heap.size≤g∧fG w' g []∧Below w.heap.size w w':=by
 obtain⟨I,hI⟩:=aW (A8);have hIl:I.length=8:=by rw[←hI];rfl
 obtain⟨S,hS⟩:=aW (Mj);have T6:S.length=8:=by rw[←hS];rfl
 have HSI:ae (S=I.set 0 0x6b08e647#32):=by rw[←hS,←hI];exact rfl
 have HS:ae (Mj=S):=hS;have dG:ae (∃t fr,w.heap[1]?=some (.cells (I.map uv).toArray t fr)):=by rw[←hI];exact ec.iv
 clear hI hS ec;obtain⟨t,fr,bh⟩:=dG.o;have cY:ae (w.heap[1]?=some (.cells (I.map uv).toArray t fr)):=bh;have II:ae ((prog.info? 140).map (·.size)=some (I.map uv).toArray.size):=jr (n:=8) (by kernel_rfl) I hIl;have IS:ae ((prog.info? 141).map (·.size)=some (S.map uv).toArray.size):=jr (n:=8) (by kernel_rfl) S T6;have xA:=fi w 141 (I.map uv) 8 (by simp[hIl]) (by kernel_rfl) (cj I);have JY:=(Wd.new w 141 I).word 0 (by omega);have hMS:(I.map uv).set 0 (.int .u32 1795745351)=S.map uv:=by have h:=HSI.o;rw[h,List.map_set];rfl
 obtain⟨c1,f1⟩:=JY;have fw:ae (Wd (w.alloc (.cells ((I.map uv).set 0 (.int .u32 1795745351)).toArray 141)) w.heap.size 141 S):=by rw[hMS];exact Wd.new w _ S
 have HMS:ae ((I.map uv).set 0 (.int .u32 1795745351)=S.map uv):=hMS;clear bh dG hMS
 go_enter func78,ntmps78
 go_wp2_with (first|refine wpList_load_row rfl 140 _ rfl 1 rfl t _ fr _ cY.o underlying140 rfl II.out ?_|refine wpList_load_row rfl 141 _ rfl w.heap.size rfl 141 _ (0,0) _ fw.o underlying141 rfl IS.out ?_|refine KN S T6 rfl _ rfl rfl ?_)
 go_ret
 refine⟨w.heap.size+1,rfl,by omega,⟨0,iL,rfl,?_,di _,by simp,by simp⟩,eF.alloc (by simp) _⟩;refine⟨?_,by have e:cX [] 0=S:=HS.o;rw[e];exact T6,by simp[iL]⟩;have h2:=eC (w.alloc (.cells ((I.map uv).set 0 (.int .u32 1795745351)).toArray 141)) (.cells (fJ S 0 iL 0).toArray 145);rw[fx] at h2;have e:cX [] 0=S:=HS.o;rw[e];exact h2
theorem Fw {P:Program}(w:aw)(t e ty:TypeId)(z:Value)(ht:P.underlying t=some (.slice e))(hv:∀w,(zeroValue e).run P w= .ok z w)(hz:z.cells= #[z])(h1:z.oneCell'=true)(b o n c:Nat)(hn:0<n)
  (cur:Array Value) (et:TypeId) (hg:w.heap[b]?=some (.cells cur et (0,0))) (al6:o+n≤cur.size):
  (Builtin.clear_ #[t] ty #[.slice (some ⟨b,o,none⟩) n c]).run P w= .ok (.tuple #[]) (w.setRow b (cur.toList.take o++cz n z++cur.toList.drop (o+n)).toArray):=by
 have hzc:(Builtin.zeroCells z.cells n).toList=cz n z:=by
  rw[hz];simp[Builtin.zeroCells];apply List.ext_getElem
  ·simp
  ·intro i h1 h2;simp[Nat.mod_one]
 have xA:=fu (P:=P) b o et (cz n z) 0 cur w hg (by simpa using al6) (by intro v hv';rw[List.eq_of_mem_replicate hv'];exact h1);simp only[Nat.add_zero,List.length_replicate] at xA;obtain⟨m,rfl⟩:∃m,n=m+1:=⟨n-1,by omega⟩;simp[Builtin.clear_,run_underlying ht,hv,hzc,xA]
theorem Uq (C p:aO)(a:Nat)(ha:qj C.length=a)(QL:64*a≤C.length)(eq:p.take (C.length-64*a)=C.drop (64*a)):p.take (C.length-64*a)++cz (64-(C.length-64*a)) 0=blast C:=by unfold blast;rw[ha,eq]
structure Sh (w:aw)(g:Nat)(m:List (BitVec 32))(t:Nat)(p:aO)(h:Nat)(q:aO)(W:aw):Prop where
 hs:Hs W g m t p h
 res:W.heap[w.heap.size]?=some (.cells aV 24 (0,0))
 last:dz W (w.heap.size+1) 143 q
 aY:Below w.heap.size w W
theorem Sh.later {w W W':aw}{g:Nat}{m:List (BitVec 32)}{t:Nat}{p:aO}{h:Nat}{q:aO}(x:Sh w g m t p h q W)(hb:Below W.heap.size W W'):Sh w g m t p h q W':=
 ⟨x.hs.later hb,by rw[hb.block _ (gD.1 x.res).1];exact x.res,x.last.later hb,x.aY.trans (hb.mono x.aY.size)⟩
theorem AO (g:Nat)(C:aO)(w:aw)(hH:fG w g C)(xH:C.length≤1000000000)(ec:ke w):
  Calls prog 80 #[.pointer (some ⟨g,0,none⟩)] w λe w'=>e= .returned (.agg ((dc C).map bv).toArray)∧Below w.heap.size w w':=by
 obtain⟨a,p,ha,hX⟩:=hH;obtain⟨h,hh⟩:=aW (C.length-64*a);have QL:=hX.lo;have hhi:=hX.hi;have Fv:=hX.hs.Nj;have hS:=hX.hs;have hL:=Uq C p a ha QL hX.eq;rw[hh] at hS hL;obtain⟨T,hT⟩:=aW (C.length);obtain⟨mm,hmm⟩:=aW (cX C a);rw[hT,hmm] at hS;obtain⟨L,hLL⟩:=aW (blast C);rw[hLL] at hL;have LX:L.length=64:=by rw[←hLL,GV]
 have HR:ae (dc C=ew (lh mm L T true)):=by show _=_;rw[dc,ha,hmm,hLL,hT]
 have asX:h≤64:=by omega
 have sS:T<18446744073709551616:=by omega
 have dG:ae (ke w):=ec;have oa:=hS.lt;have HS:ae (Hs w g mm T p h):=hS;have HL:ae (p.take h++cz (64-h) 0=L):=hL;have Nk:=hS.m8;have IM:ae ((prog.info? 141).map (·.size)=some (mm.map uv).length):=by
  have e1:(prog.info? 141).map (·.size)=some 8:=by kernel_rfl
  show _=_;rw[e1];simp[Nk]
 have IP:ae ((prog.info? 143).map (·.size)=some (p.map bv).length):=by
  have e1:(prog.info? 143).map (·.size)=some 64:=by kernel_rfl
  show _=_;rw[e1];simp[Fv]
 have IL:ae ((prog.info? 143).map (·.size)=some (L.map bv).toArray.size):=cW (n:=64) (by kernel_rfl) L LX;obtain⟨R,hR⟩:=aW (ew (lh mm L T true));have wA:R.length=32:=by rw[←hR,jA,gQ]
 have HRR:ae (ew (lh mm L T true)=R):=hR;have IR:ae ((prog.info? 24).map (·.size)=some (R.map bv).toArray.size):=cW (n:=32) (by kernel_rfl) R wA;have gg:ae (Hs (w.alloc (.cells aV 24)) g mm T p h):=HS.o.later eF;have xA:=cJ (w.alloc (.cells aV 24)) 143 p 64 Fv (by kernel_rfl);rw[fx] at xA;have cM:Below w.heap.size w ((w.alloc (.cells aV 24)).alloc (.cells (p.map bv).toArray 143)):=eF.alloc (by simp) _;have lf:Sh w g mm T p h p ((w.alloc (.cells aV 24)).alloc (.cells (p.map bv).toArray 143)):=by
  refine⟨HS.o.later cM,?_,?_,cM⟩
  ·rw[jE _ _ _ (by simp)];exact eC w _
  ·have:=dz.new (w.alloc (.cells aV 24)) 143 p
   rwa [fx] at this
 obtain⟨W2,fV⟩:=aW ((w.alloc (.cells aV 24)).alloc (.cells (p.map bv).toArray 143));rw[fV] at lf xA;simp only[aV,cz] at xA;have xT:ae (Sh w g mm T p h p W2):=lf;obtain⟨ch,_⟩:=lf.hs.held;have asY:(h:Int)≤64:=by omega
 clear hX hS hL cM lf fV hh hT hmm hLL ha ec QL hhi hR
 go_enter func80,ntmps80
 by_cases hf:64=h
 ·have aat:(Builtin.clear_ #[22] 0 #[.slice (some ⟨w.heap.size+1,0,none⟩) 0 0]).run prog W2= .ok (.tuple #[]) W2:=by simp[Builtin.clear_,run_underlying underlying22]
  have e1:L=p:=by rw[←HL.o,←hf,su (by omega)];simp
  obtain⟨W3,nV⟩:=aW (W2);have HX3:ae (Sh w g mm T p h L W3):=by rw[←nV,e1];exact xT.o
  have Ur:(Builtin.clear_ #[22] 0 #[.slice (some ⟨w.heap.size+1,0,none⟩) 0 0]).run prog W2= .ok (.tuple #[]) W3:=by rw[aat,nV]
  clear e1 nV aat
  go_wp2_with (first|refine cD rfl 143 _ rfl g 9 rfl (p.map bv) _ gg.o.last underlying143 rfl IP.out ?_)
  clear xA Ur gg xT ch IP;obtain⟨W,kY⟩:=aW (W3.drew);have ij:ae (W3.drew=W):=kY;have LS:ae (Sh w g mm T p h L W):=HX3.o.later (by rw[←kY];exact gl);have L1:ae (ke W):=dG.o.below LS.o.aY dG.o.lt;clear kY HX3;refine j6 (G:=bM) (by kernel_rfl) bM.refl bM.trans (by kernel_rfl) [(0,true),(1,true),(2,true),(3,true),(4,true),(5,true),(6,true),(7,true),(8,true),(9,false),(10,false)] 11 _ rfl ((Array.replicate 12 false).mapIdx λi _=>i<11) rfl (by kernel_rfl) (by kernel_rfl) (by kernel_rfl) (by kernel_rfl) ?_;intro KK cA;rw[ij.o]
  iterate 3 (refine aa rfl (by rfl) (v:=?_) ?_ ?_;rotate_left;(intro w' hw';clear hw';go_simp;with_reducible rfl);go_simp)
  refine aa rfl (by rfl) (v:=.agg (mm.map uv).toArray) (λw' hw'=>bE 141 _ rfl g 0 rfl (mm.map uv) _ (LS.o.hs.later hw').made underlying141 rfl IM.out) ?_;go_simp
  refine aa rfl (by rfl) (v:=.agg (L.map bv).toArray) (λw' hw'=>ar 143 _ rfl (w.heap.size+1) rfl 143 _ (0,0) _ (LS.o.last.later hw') underlying143 rfl IL.out) ?_;go_simp
  iterate 4 (refine aa rfl (by rfl) (v:=?_) ?_ ?_;rotate_left;(intro w' hw';have ct:=(LS.o.hs.later hw').told.1;clear hw';go_simp;with_reducible rfl);go_simp)
  refine aU (f:=102) (args:=#[.agg (mm.map uv).toArray,.agg (L.map bv).toArray,.int .u64 (T:Int),.bool true]) rfl (by rfl) (by go_simp) ?_;refine(AN mm L T true W Nk LX L1.o sS).mono ?_;rintro e w8 ⟨rfl,i9⟩;refine⟨_,rfl,i9,?_⟩;obtain⟨Z,hZ⟩:=aW (lh mm L T true);have Jy:Z.length=8:=by rw[←hZ,gQ]
  rw[hZ];have HX8:ae (Sh w g mm T p h L w8):=LS.o.later i9;have HZR:ae (ew Z=R):=by rw[←hZ];exact HRR.o
  clear LS L1 i9 hZ ij;go_simp
  refine aU (f:=103) (args:=#[.agg (Z.map uv).toArray]) rfl (by rfl) (by go_simp) ?_;refine(KF Z w8 Jy).mono ?_;rintro e w9 ⟨rfl,Hj⟩;refine⟨_,rfl,Hj,?_⟩;rw[HZR.o];have Yy:=HX8.o.later Hj;have DO:=aL w9 w.heap.size _ _ (R.map bv) Yy.res (by simp[wA,aV]) (bd R);have bh:=setRow_heap w9 w.heap.size _ (R.map bv).toArray _ _ Yy.res;have bR:ae (Below w.heap.size w (w9.setRow w.heap.size (R.map bv).toArray)):=below_setRow Yy.aY (di _) _;obtain⟨W4,fj⟩:=aW (w9.setRow w.heap.size (R.map bv).toArray);rw[fj] at DO bh bR;have cY:ae (W4.heap[w.heap.size]?=some (.cells (R.map bv).toArray 24 (0,0))):=bh;clear bh fj HX8 Yy Hj HZR;go_simp
  refine cA.out _ _ W4 (by rfl) (by go_simp) ?_;clear DO;go_simp
  (try go_wp2)
  (try simp only[nu,Exit.then])
  refine bodyPost_ret (results_cell_row rfl _ _ w.heap.size 24 _ (0,0) _ rfl cY.o underlying24 rfl IR.out) rfl ?_;exact⟨by rw[HR.o,HRR.o],bR.o⟩
 ·have hn:0<64-h:=by omega
  have Ur:=Fw (P:=prog) W2 22 5 0 (.int .u8 0) underlying22 (λw=>by rfl) rfl rfl (w.heap.size+1) h (64-h) (64-h) hn _ _ xT.o.last (by simp[Fv];omega);have e1:(p.map bv).toArray.toList.take h++cz (64-h) (Value.int .u8 0)++(p.map bv).toArray.toList.drop (h+(64-h))=L.map bv:=by rw[←HL.o,List.map_append,List.map_replicate,List.map_take,show h+(64-h)=64 by omega];dsimp only;rw[List.drop_eq_nil_of_le (by simp[Fv]),List.append_nil];rfl
  rw[e1] at Ur;obtain⟨W3,nV⟩:=aW (W2.setRow (w.heap.size+1) (L.map bv).toArray);have HX3:ae (Sh w g mm T p h L W3):=by
   rw[←nV];refine⟨⟨?_,xT.o.hs.m8,xT.o.hs.Nj⟩,?_,setRow_heap _ _ _ _ _ _ xT.o.last,below_setRow xT.o.aY (by omega) _⟩
   ·rw[setRow_other _ _ _ _ (by omega)];exact xT.o.hs.row
   ·rw[setRow_other _ _ _ _ (by omega)];exact xT.o.res
  rw[nV] at Ur;clear e1 nV hn
  go_wp2_with (first|refine cD rfl 143 _ rfl g 9 rfl (p.map bv) _ gg.o.last underlying143 rfl IP.out ?_)
  clear xA Ur gg xT ch IP;obtain⟨W,kY⟩:=aW (W3.drew);have ij:ae (W3.drew=W):=kY;have LS:ae (Sh w g mm T p h L W):=HX3.o.later (by rw[←kY];exact gl);have L1:ae (ke W):=dG.o.below LS.o.aY dG.o.lt;clear kY HX3;refine j6 (G:=bM) (by kernel_rfl) bM.refl bM.trans (by kernel_rfl) [(0,true),(1,true),(2,true),(3,true),(4,true),(5,true),(6,true),(7,true),(8,true),(9,false),(10,false)] 11 _ rfl ((Array.replicate 12 false).mapIdx λi _=>i<11) rfl (by kernel_rfl) (by kernel_rfl) (by kernel_rfl) (by kernel_rfl) ?_;intro KK cA;rw[ij.o]
  iterate 3 (refine aa rfl (by rfl) (v:=?_) ?_ ?_;rotate_left;(intro w' hw';clear hw';go_simp;with_reducible rfl);go_simp)
  refine aa rfl (by rfl) (v:=.agg (mm.map uv).toArray) (λw' hw'=>bE 141 _ rfl g 0 rfl (mm.map uv) _ (LS.o.hs.later hw').made underlying141 rfl IM.out) ?_;go_simp
  refine aa rfl (by rfl) (v:=.agg (L.map bv).toArray) (λw' hw'=>ar 143 _ rfl (w.heap.size+1) rfl 143 _ (0,0) _ (LS.o.last.later hw') underlying143 rfl IL.out) ?_;go_simp
  iterate 4 (refine aa rfl (by rfl) (v:=?_) ?_ ?_;rotate_left;(intro w' hw';have ct:=(LS.o.hs.later hw').told.1;clear hw';go_simp;with_reducible rfl);go_simp)
  refine aU (f:=102) (args:=#[.agg (mm.map uv).toArray,.agg (L.map bv).toArray,.int .u64 (T:Int),.bool true]) rfl (by rfl) (by go_simp) ?_;refine(AN mm L T true W Nk LX L1.o sS).mono ?_;rintro e w8 ⟨rfl,i9⟩;refine⟨_,rfl,i9,?_⟩;obtain⟨Z,hZ⟩:=aW (lh mm L T true);have Jy:Z.length=8:=by rw[←hZ,gQ]
  rw[hZ];have HX8:ae (Sh w g mm T p h L w8):=LS.o.later i9;have HZR:ae (ew Z=R):=by rw[←hZ];exact HRR.o
  clear LS L1 i9 hZ ij;go_simp
  refine aU (f:=103) (args:=#[.agg (Z.map uv).toArray]) rfl (by rfl) (by go_simp) ?_;refine(KF Z w8 Jy).mono ?_;rintro e w9 ⟨rfl,Hj⟩;refine⟨_,rfl,Hj,?_⟩;rw[HZR.o];have Yy:=HX8.o.later Hj;have DO:=aL w9 w.heap.size _ _ (R.map bv) Yy.res (by simp[wA,aV]) (bd R);have bh:=setRow_heap w9 w.heap.size _ (R.map bv).toArray _ _ Yy.res;have bR:ae (Below w.heap.size w (w9.setRow w.heap.size (R.map bv).toArray)):=below_setRow Yy.aY (di _) _;obtain⟨W4,fj⟩:=aW (w9.setRow w.heap.size (R.map bv).toArray);rw[fj] at DO bh bR;have cY:ae (W4.heap[w.heap.size]?=some (.cells (R.map bv).toArray 24 (0,0))):=bh;clear bh fj HX8 Yy Hj HZR;go_simp
  refine cA.out _ _ W4 (by rfl) (by go_simp) ?_;clear DO;go_simp
  (try go_wp2)
  (try simp only[nu,Exit.then])
  refine bodyPost_ret (results_cell_row rfl _ _ w.heap.size 24 _ (0,0) _ rfl cY.o underlying24 rfl IR.out) rfl ?_;exact⟨by rw[HR.o,HRR.o],bR.o⟩
theorem KO (a:bW)(len cap:Nat)(l:aO)(w:aw)(hB:bj w a len l)(rk:a=none→cap=0)(ig:len≤cap)(m7:cap≤maxLen)(xH:len≤1000000000)(ec:ke w):
  Calls prog 101 #[.slice a len cap] w λe w'=>e= .returned (.agg ((dc l).map bv).toArray)∧Below w.heap.size w w':=by
 have hl:l.length=len:=hB.1;have dG:ae (ke w):=ec;have HB:ae (bj w a len l):=hB;obtain⟨R,hR⟩:=aW (dc l);have wA:R.length=32:=by rw[←hR,eM]
 have HR:ae (dc l=R):=hR;have IR:ae ((prog.info? 24).map (·.size)=some (R.map bv).toArray.size):=cW (n:=32) (by kernel_rfl) R wA;have ik:Below w.heap.size w (w.alloc (.cells aV 24)):=eF;have ahu:=eC w (.cells aV 24);have sB:ae (ke (w.alloc (.cells aV 24))):=dG.o.later ik;have pX:ae (Below w.heap.size w (w.alloc (.cells aV 24))∧(w.alloc (.cells aV 24)).heap[w.heap.size]?=some (.cells aV 24 (0,0))∧ke (w.alloc (.cells aV 24))):=⟨ik,ahu,sB.o⟩;clear hR ec hB ik ahu sB
 go_enter func101,ntmps101
 go_wp2_with fail
 refine bY (P:=λW=>Calls prog 78 #[] W _) (R:=λW=>ae (Below w.heap.size w W∧W.heap[w.heap.size]?=some (.cells aV 24 (0,0))∧ke W)) _ pX ?_;intro W0 gK;clear pX;refine(DN W0 gK.out.2.2).mono ?_;rintro e w1 ⟨g,rfl,hg,hH1,ck⟩;obtain⟨ik,Us,Ut⟩:=gK.out;have DA:w.heap.size<W0.heap.size:=(gD.1 Us).1;have ahv:=Ut.lt;have pY:ae (ke w1):=Ut.later ck;have HH1:ae (fG w1 g []):=hH1;have iG:ae (bj w1 a len l):=HB.o.later (ik.trans (ck.mono ik.size));have f8:ae (0<len→∀b o f,a=some ⟨b,o,f⟩→b≠g):=by
  intro hn b o f e
  rcases HB.o.2 with h|⟨b',o',e',hc⟩
  ·omega
  ·rw[e'] at e;cases e
   have:=HB.o;rw[e'] at this;have:=this.lt hn;omega
 have Uu:ae (Below w.heap.size w w1):=ik.trans (ck.mono ik.size);have Uv:ae (w1.heap[w.heap.size]?=some (.cells aV 24 (0,0))):=by show _=_;rw[ck.block _ DA];exact Us
 have hgw:w.heap.size≠g:=by omega
 have asZ:w.heap.size≤g:=by omega
 have Ss:g≠1∧g≠2:=by omega
 clear gK ik Us Ut ck hH1 hg
 go_wp2_with fail
 refine(qw g [] a len cap l w1 HH1.o iG.o rk f8.o ig m7 (by simp;omega) pY.o Ss).mono ?_;rintro e w2 ⟨⟨v,rfl⟩,St,fH⟩;have WJ:ae (fG w2 g l):=St;have vI:ae (ke w2):=pY.o.but fH Ss;have KS:ae (Below w.heap.size w w2):=Uu.o.trans ⟨fH.os,fH.tape,fH.output,fH.size,λk hk=>fH.block k (by have:=Uu.o.size;omega) (λe=>by cases e;omega)⟩;have Uw:ae (w2.heap[w.heap.size]?=some (.cells aV 24 (0,0))):=by show _=_;rw[fH.block _ (gD.1 Uv.o).1 (λe=>hgw (by cases e;rfl))];exact Uv.o
 clear St fH Uu Uv pY HH1 f8 iG
 go_wp2_with fail
 refine(AO g l w2 WJ.o (by omega) vI.o).mono ?_;rintro e w3 ⟨rfl,eZ⟩;rw[HR.o];have ahw:=(gD.1 Uw.o).1;have Ux:w3.heap[w.heap.size]?=some (.cells aV 24 (0,0)):=by rw[eZ.block _ ahw];exact Uw.o
 have DO:=aL w3 w.heap.size _ _ (R.map bv) Ux (by simp[wA,aV]) (bd R);have bh:=setRow_heap w3 w.heap.size _ (R.map bv).toArray _ _ Ux;have bR:ae (Below w.heap.size w (w3.setRow w.heap.size (R.map bv).toArray)):=below_setRow (KS.o.trans (eZ.mono KS.o.size)) (di _) _;obtain⟨W4,fj⟩:=aW (w3.setRow w.heap.size (R.map bv).toArray);rw[fj] at DO bh bR;have cY:ae (W4.heap[w.heap.size]?=some (.cells (R.map bv).toArray 24 (0,0))):=bh;clear bh fj Ux eZ KS Uw WJ vI ahw
 go_wp2
 (try simp only[nu,Exit.then])
 refine bodyPost_ret (results_cell_row rfl _ _ w.heap.size 24 _ (0,0) _ rfl cY.o underlying24 rfl IR.out) rfl ?_;exact⟨by rw[HR.o],bR.o⟩
def l9:Array Value:=(cz 64 (Value.int .u8 0)).toArray
theorem Nn:l9=(iL.map bv).toArray:=by rfl
structure Fl (w:aw)(p:aO)(W:aw):Prop where
 res:W.heap[w.heap.size]?=some (.cells l9 163 (0,0))
 p:dz W (w.heap.size+1) 163 p
 aY:Below w.heap.size w W
theorem Fl.new (w:aw):Fl w iL ((w.alloc (.cells l9 163)).alloc (.cells l9 163)):=by have h1:=dz.new (w.alloc (.cells l9 163)) 163 iL;rw[fx,←Nn] at h1;refine⟨?_,h1,eF.alloc (by simp) _⟩;rw[jE _ _ _ (by simp)];exact eC w _
theorem Fl.later {w W W':aw}{p:aO}(x:Fl w p W)(hb:Below W.heap.size W W'):Fl w p W':=
 ⟨by rw[hb.block _ (gD.1 x.res).1];exact x.res,x.p.later hb,x.aY.trans (hb.mono x.aY.size)⟩
theorem aaw {w W:aw}(hF:Fl w iL W)(a:bW)(n c:Nat)(l:aO)(hB:bj W a n l)(hn:n≤64):
  ∃W',(Builtin.copy_ #[22,22] 3 #[.slice (some ⟨w.heap.size+1,0,none⟩) 64 64,.slice a n c]).run prog W= .ok (.int .i64 (n:Int)) W'∧Fl w (l++cz (64-n) 0) W':=by
 have hl:=hB.1;have hm:Nat.min n 64=n:=Nat.min_eq_left hn
 rcases hB.2 with h0|⟨b,off,rfl,hc⟩
 ·have hr:=run_copy_none (P:=prog) W 22 22 3 5 (some ⟨w.heap.size+1,0,none⟩) a 64 64 n c underlying22 Tryz.info1U8 (by rw[h0];rfl);subst h0;obtain rfl:l=[]:=List.eq_nil_of_length_eq_zero hl;exact⟨_,hr,hF⟩
 ·have lY:=run_copy_row prog W 22 22 3 5 (w.heap.size+1) 0 64 64 ⟨b,off,none⟩ n c _ _ (l.map bv) underlying22 Tryz.info1U8 hF.p
   (by rw[List.length_map,hl];exact hm.symm) (hB.cells _ rfl) (by simp[iL,hl];omega) (bd _)
  rw[List.length_map,hl] at lY;have e1:(iL.map bv).toArray.toList.take 0++l.map bv++(iL.map bv).toArray.toList.drop (0+n)=(l++cz (64-n) 0).map bv:=by show[]++l.map bv++((cz 64 (0:UInt8)).map bv).drop (0+n)=_;rw[Nat.zero_add,List.map_replicate,List.drop_replicate,List.map_append,List.map_replicate,List.nil_append]
  rw[e1] at lY;refine⟨_,lY,?_,setRow_heap _ _ _ _ _ _ hF.p,below_setRow hF.aY (by omega) _⟩;rw[setRow_other _ _ _ _ (by omega)];exact hF.res
theorem Q6 (a:bW)(iY qx:Nat)(key:aO)(w:aw)(hK:bj w a iY key)(DP:a=none→qx=0)(Hc:iY≤5000)(C8:iY≤qx)(acr:qx≤maxLen)(ec:ke w):
  Calls prog 123 #[.slice a iY qx] w λe w'=>e= .returned (.agg ((nQ key).map bv).toArray)∧Below w.heap.size w w':=by
 have AB:=hK.1;obtain⟨F,hFe⟩:=aW (nQ key);have Pj:F.length=64:=by rw[←hFe,Bb]
 have HFe:ae (nQ key=F):=hFe;rw[hFe];have dG:ae (ke w):=ec;have HK:ae (bj w a iY key):=hK;have Q7:ae (Fl w iL ((w.alloc (.cells l9 163)).alloc (.cells l9 163))):=Fl.new w;have IF:ae ((prog.info? 163).map (·.size)=some (F.map bv).toArray.size):=cW (n:=64) (by kernel_rfl) F Pj;clear ec hK hFe
 by_cases Gj:64<iY
 ·have hli:(64:Int)<(iY:Int):=by omega
  have HE:ae (F=dc key++cz (64-32) 0):=by rw[←HFe.o];unfold nQ dH;rw[if_pos (by omega),eM];exact rfl
  clear HFe
  go_enter func123,ntmps123
  go_wp2_with fail
  refine bY (P:=λW=>Calls prog 101 _ W _) (R:=λW=>ae (Fl w iL W)) _ Q7 ?_;intro W0 HF1;clear Q7;refine(KO a iY qx key W0 (HK.o.later HF1.o.aY) DP C8 acr (by omega) (dG.o.later HF1.o.aY)).mono ?_;rintro e w1 ⟨rfl,ck⟩;have Su:=HF1.o.later ck;obtain⟨R,hR⟩:=aW (dc key);have wA:R.length=32:=by rw[←hR,eM]
  rw[hR] at HE⊢;have xA:=cJ w1 24 R 32 wA (by kernel_rfl) aV (by kernel_rfl);have hF3:=Su.later ((bZ _ _).alloc (di _) (.cells (R.map bv).toArray 24));have hA3:=dz.new w1 24 R;obtain⟨W3,nV⟩:=aW (w1.alloc (.cells (R.map bv).toArray 24));rw[nV] at xA hF3 hA3;simp only[aV,cz] at xA;obtain⟨W4,lY,Ji⟩:=aaw hF3 (some ⟨w1.heap.size,0,none⟩) 32 32 R (hA3.nw 32 wA) (by omega);rw[←HE.o] at Ji;have acw:=aL W4 w.heap.size _ _ (F.map bv) Ji.res (by simp[Pj,l9]) (bd F);have bh:=setRow_heap W4 w.heap.size _ (F.map bv).toArray _ _ Ji.res;have bR:ae (Below w.heap.size w (W4.setRow w.heap.size (F.map bv).toArray)):=below_setRow Ji.aY (di _) _;obtain⟨W5,xo⟩:=aW (W4.setRow w.heap.size (F.map bv).toArray);rw[xo] at acw bh bR;have cY:ae (W5.heap[w.heap.size]?=some (.cells (F.map bv).toArray 163 (0,0))):=bh;have Yz:ae (dz W4 (w.heap.size+1) 163 F):=Ji.p;clear bh xo Ji hA3 hF3 Su HF1 ck hR HE nV dG HK
  go_wp2_with (first|refine wpList_load_row rfl 163 _ rfl (w.heap.size+1) rfl 163 _ (0,0) _ Yz.o underlying163 rfl IF.out ?_)
  (try simp only[nu,Exit.then])
  refine bodyPost_ret (results_cell_row rfl _ _ w.heap.size 163 _ (0,0) _ rfl cY.o underlying163 rfl IF.out) rfl ?_;exact⟨rfl,bR.o⟩
 ·have hli:¬(64:Int)<(iY:Int):=by omega
  have HE:ae (F=key++cz (64-iY) 0):=by rw[←HFe.o];unfold nQ dH;rw[if_neg (by omega),AB];exact rfl
  obtain⟨W4,lY,Ji⟩:=aaw Q7.o a iY qx key (HK.o.later Q7.o.aY) (by omega);rw[←HE.o] at Ji;have acw:=aL W4 w.heap.size _ _ (F.map bv) Ji.res (by simp[Pj,l9]) (bd F);have bh:=setRow_heap W4 w.heap.size _ (F.map bv).toArray _ _ Ji.res;have bR:ae (Below w.heap.size w (W4.setRow w.heap.size (F.map bv).toArray)):=below_setRow Ji.aY (di _) _;obtain⟨W5,xo⟩:=aW (W4.setRow w.heap.size (F.map bv).toArray);rw[xo] at acw bh bR;have cY:ae (W5.heap[w.heap.size]?=some (.cells (F.map bv).toArray 163 (0,0))):=bh;have Yz:ae (dz W4 (w.heap.size+1) 163 F):=Ji.p;simp only[l9,cz] at lY;clear bh xo Ji HE HFe dG HK Q7
  go_enter func123,ntmps123
  go_wp2_with (first|refine wpList_load_row rfl 163 _ rfl (w.heap.size+1) rfl 163 _ (0,0) _ Yz.o underlying163 rfl IF.out ?_)
  (try simp only[nu,Exit.then])
  refine bodyPost_ret (results_cell_row rfl _ _ w.heap.size 163 _ (0,0) _ rfl cY.o underlying163 rfl IF.out) rfl ?_;exact⟨rfl,bR.o⟩
def AP (p:aO)(c:UInt8)(k:Nat):aO:=(p.take k).map (· ^^^c)++p.drop k
theorem Bt (p:aO)(c:UInt8)(k:Nat):(AP p c k).length=p.length:=by simp[AP];omega
theorem Uy (p:aO)(c:UInt8)(k:Nat)(h:k<p.length):(AP p c k).set k (at8 p k^^^c)=AP p c (k+1):=by
 have hl:((p.take k).map (· ^^^c)).length=k:=by simp;omega
 unfold AP;rw[List.drop_eq_getElem_cons h,tW p k h,List.map_append,List.set_append_right _ _ (by omega),hl,Nat.sub_self,List.set_cons_zero];simp
theorem YA (p:aO)(c:UInt8)(k:Nat)(h:k<p.length):at8 (AP p c k) k=at8 p k:=by
 have hl:((p.take k).map (· ^^^c)).length=k:=by simp;omega
 unfold AP at8;rw[List.getD_eq_getElem?_getD,List.getD_eq_getElem?_getD,List.getElem?_append_right (by omega),hl,Nat.sub_self,List.getElem?_drop,Nat.add_zero]
theorem KT (c:UInt8):∀p:aO,p.map (· ^^^c)=kU p (cz p.length c)
 |[]=>rfl
 |x::p=>by show _::_=_::_;rw[List.cons.injEq];exact⟨rfl,KT c p⟩
theorem Uz (p:aO)(c:UInt8)(hp:p.length=64):AP p c 64=kU p (rh c):=by unfold AP rh;rw[su (by omega),List.drop_eq_nil_of_le (by omega),List.append_nil,KT,hp]
structure Sm (w:aw)(q:aO)(W:aw):Prop where
 p:dz W w.heap.size 163 q
 res:W.heap[w.heap.size+1]?=some (.cells aV 24 (0,0))
 aY:Below w.heap.size w W
theorem Sm.new (w:aw)(q:aO):Sm w q ((w.alloc (.cells (q.map bv).toArray 163)).alloc (.cells aV 24)):=by have h0:=dz.new w 163 q;have h1:=eC (w.alloc (.cells (q.map bv).toArray 163)) (.cells aV 24);rw[fx] at h1;exact⟨h0.later eF,h1,eF.alloc (by simp) _⟩
theorem Sm.set {w W:aw}{q:aO}(x:Sm w q W)(i:Nat)(c:UInt8):Sm w (q.set i c) (W.setCell ⟨w.heap.size,i,none⟩ (.int .u8 (c.toNat:Int))):=
 ⟨x.p.set i c,by rw[heap_setCell_other W ⟨w.heap.size,i,none⟩ (w.heap.size+1) _ (by simp)];exact x.res,x.aY.setCell (di _) _⟩
theorem Sm.later {w W W':aw}{q:aO}(x:Sm w q W)(hb:Below W.heap.size W W'):Sm w q W':=
 ⟨x.p.later hb,by rw[hb.block _ (gD.1 x.res).1];exact x.res,x.aY.trans (hb.mono x.aY.size)⟩
theorem Sm.but {w W W':aw}{q:aO}{g:Nat}(x:Sm w q W)(hb:W.grownBy W' (some g))(hg:w.heap.size+2≤g):Sm w q W':=by
 refine⟨?_,?_,x.aY.trans ⟨hb.os,hb.tape,hb.output,hb.size,λk hk=>hb.block k (by have:=x.aY.size;omega) (λe=>by cases e;omega)⟩⟩
 ·unfold dz;rw[hb.block _ x.p.lt (λe=>by cases e;omega)];exact x.p
 ·rw[hb.block _ (gD.1 x.res).1 (λe=>by cases e;omega)];exact x.res
theorem bj.Cu {w w':aw}{a:bW}{n g:Nat}{l:aO}(h:bj w a n l)(hg:w.grownBy w' (some g))(hb:0<n→∀b o f,a=some ⟨b,o,f⟩→b≠g):bj w' a n l:=by
 rcases h.2 with h0|⟨b,off,rfl,_⟩
 ·exact⟨h.1,.inl h0⟩
 ·by_cases h0:n=0
  ·exact⟨h.1,.inl h0⟩
  ·exact h.but hg (hb (by omega) b off none rfl)
theorem bj.apart {w:aw}{a:bW}{n g:Nat}{l:aO}(h:bj w a n l)(hg:w.heap.size≤g):0<n→∀b o f,a=some ⟨b,o,f⟩→b≠g:=by
 intro hn b o f e
 rcases h.2 with h0|⟨b',o',e',hc⟩
 ·omega
 ·rw[e'] at e;cases e
  rw[e'] at h;have:=h.lt hn;omega
theorem KU (p:aO)(hp:p.length=64)(c:UInt8)(a:bW)(dZ gV:Nat)(bl:aO)(w:aw)(hB:bj w a dZ bl)(vv:a=none→gV=0)(O7:dZ≤5000)(yQ:dZ≤gV)(UA:gV≤maxLen)(ec:ke w):
  Calls prog 124 #[.agg (p.map bv).toArray,.int .u8 (c.toNat:Int),.slice a dZ gV] w λe w'=>e= .returned (.agg ((dc (kU p (rh c)++bl)).map bv).toArray)∧Below w.heap.size w w':=by
 obtain⟨X,hX⟩:=aW (kU p (rh c));have HX:ae (AP p c 64=X):=by show _=_;rw[Uz p c hp,hX]
 have hXl:X.length=64:=by rw[←HX.o,Bt,hp]
 rw[hX];obtain⟨R,hR⟩:=aW (dc (X++bl));have wA:R.length=32:=by rw[←hR,eM]
 rw[hR];have HR:ae (dc (X++bl)=R):=hR;have IR:ae ((prog.info? 24).map (·.size)=some (R.map bv).toArray.size):=cW (n:=32) (by kernel_rfl) R wA;have dG:ae (ke w):=ec;have ahv:=ec.lt;have kW:=hB.1;have HB:ae (bj w a dZ bl):=hB;have uo:ae (Sm w (AP p c 0) ((w.alloc (.cells (p.map bv).toArray 163)).alloc (.cells aV 24))):=Sm.new w p;clear ec hB hR hX
 go_enter func124,ntmps124
 go_wp2
 go_loopw [9] (λi wr=>∃k:Nat,k≤64∧i= .int .i64 k∧ae (Sm w (AP p c k) wr)) (λi _=>64-(intOf i).toNat)
 case atStart=>exact⟨0,Nat.zero_le _,rfl,uo⟩
 case round=>
  clear uo;obtain⟨k,hk,rfl,hS⟩:=hrel
  by_cases dN:k<64
  ·have sM:(k:Int)<64:=by omega
   obtain⟨c1,f1⟩:=hS.out.p.at_ k (by rw[Bt];omega);rw[YA p c k (by omega)] at c1;have xv:=JA (at8 p k) c;have h1:=hS.out.set k (at8 p k^^^c);rw[Uy p c k (by omega)] at h1;have gg:ae (Sm w (AP p c (k+1)) (wr.setCell ⟨w.heap.size,k,none⟩ (.int .u8 ((at8 p k^^^c).toNat:Int)))):=h1;clear h1 hS
   go_wp2
   exact⟨⟨k+1,by omega,by go_num,gg⟩,by simp[intOf];omega⟩
  ·have ek:k=64:=by omega
   subst ek;have HS:ae (Sm w X wr):=by have:=hS.out;rwa [HX.o] at this
   have HTr:ae (ke wr):=dG.o.later HS.o.aY;have OU:ae (bj wr a dZ bl):=HB.o.later HS.o.aY;have HA:ae (∀g,w.heap.size≤g→0<dZ→∀b o f,a=some ⟨b,o,f⟩→b≠g):=λg hg=>HB.o.apart hg;clear hS dN dG HB HX
   go_wp2_with fail
   refine(DN wr HTr.o).mono ?_;rintro e w1 ⟨g,rfl,hg,hH1,ck⟩;have Fg:=(gD.1 HS.o.res).1;have hgw:w.heap.size+2≤g:=by omega
   have Ss:g≠1∧g≠2:=by omega
   have pY:ae (ke w1):=HTr.o.later ck;have HH1:ae (fG w1 g []):=hH1;have gg:ae (Sm w X w1):=HS.o.later ck;have iG:ae (bj w1 a dZ bl):=OU.o.later ck;have Yl:ae (bj w1 (some ⟨w.heap.size,0,none⟩) 64 X):=gg.o.p.nw 64 hXl;clear hH1 ck hg Fg HTr HS OU
   go_wp2_with fail
   refine(qw g [] (some ⟨w.heap.size,0,none⟩) 64 64 X w1 HH1.o Yl.o (λe=>by cases e) (λ_ b o f e=>by cases e;omega) (di _) (by unfold maxLen;omega) (by simp) pY.o Ss).mono ?_;rintro e w2 ⟨⟨v,rfl⟩,St,fH⟩;have WJ:ae (fG w2 g X):=St;have vI:ae (ke w2):=pY.o.but fH Ss;have oE:ae (Sm w X w2):=gg.o.but fH hgw;have sO:ae (bj w2 a dZ bl):=iG.o.Cu fH (HA.o g (by omega));clear St fH HH1 pY gg iG Yl
   go_wp2_with fail
   refine(qw g X a dZ gV bl w2 WJ.o sO.o vv (HA.o g (by omega)) yQ UA (by omega) vI.o Ss).mono ?_;rintro e w3 ⟨⟨v3,rfl⟩,hH3,fP⟩;have HH3:ae (fG w3 g (X++bl)):=hH3;have FZ:ae (ke w3):=vI.o.but fP Ss;have vP:ae (Sm w X w3):=oE.o.but fP hgw;clear hH3 fP WJ vI oE sO
   go_wp2_with fail
   refine(AO g (X++bl) w3 HH3.o (by simp;omega) FZ.o).mono ?_;rintro e w4 ⟨rfl,js⟩;rw[HR.o];have hS4:=vP.o.later js;have xA:=aL w4 (w.heap.size+1) _ _ (R.map bv) hS4.res (by simp[wA,aV]) (bd R);have bh:=setRow_heap w4 (w.heap.size+1) _ (R.map bv).toArray _ _ hS4.res;have bR:ae (Below w.heap.size w (w4.setRow (w.heap.size+1) (R.map bv).toArray)):=below_setRow hS4.aY (by omega) _;obtain⟨W5,xo⟩:=aW (w4.setRow (w.heap.size+1) (R.map bv).toArray);rw[xo] at xA bh bR;have cY:ae (W5.heap[w.heap.size+1]?=some (.cells (R.map bv).toArray 24 (0,0))):=bh;clear bh xo hS4 js vP FZ HH3
   go_wp2
   (try simp only[nu,Exit.then])
   refine bodyPost_ret (results_cell_row rfl _ _ (w.heap.size+1) 24 _ (0,0) _ rfl cY.o underlying24 rfl IR.out) rfl ?_;exact⟨rfl,bR.o⟩
end Go.Proofs.YtkdpblbhcfhagaaGreatDoor
