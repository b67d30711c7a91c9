import Derived.ChangeSame
import Derived.Test.YtkdpblbhcfhagaaGreatDoorQac
namespace Go.Proofs.YtkdpblbhcfhagaaGreatDoor
open Go.Proofs.Tryz
open _root_.Nat renaming le_refl → di, le_trans → kx, lt_of_lt_of_le → tV
open Go.RowKit.Below renaming refl → bZ, heap_alloc → jE
open Go.World renaming size_alloc → fx
open _root_.Array renaming getElem?_eq_some_iff → gD
open Go renaming undef → ag, World → aw, heap_alloc_new → eC
open _root_.List renaming replicate → cz, not_mem_nil → nj, mem_cons → mg, take_of_length_le → su
open Go.Exit renaming inBlock → nu
set_option maxHeartbeats 64000000
set_option maxRecDepth 100000
open Go.ChangeShapes Go.WideShapes
section
variable {H:Type} {enc:TypeId×Value→H} {P:Program} {k e:TypeId} {n:Nat} {q:IntKind} {W:aw} {base:Nat} {sp:Nat→Bool} {held:Bool}
theorem AF (he:P.underlying e=some (.int q)){m:Nat}{cs:bK}{c:Nat}:∀(L:List Nat) (xs:List (DataW H×List MemPlace)),
  L.mapM (λi=>DataW.trod enc P W base sp held m e ((cs.drop (i*c)).take c))=some xs→∀i∈L,∃z,(cs.drop (i*c)).take c=[.int q z]∧(Lit.int q z).wf=true
 |[],_,_=>by simp
 |j::L,xs,h=>by
  rw[List.mapM_cons] at h;simp only[bind,Option.bind_eq_some_iff,pure,Option.some.injEq] at h;obtain⟨y,hy,ys,hys,rfl⟩:=h;intro i hi
  rcases mg.1 hi with rfl|hi
  ·obtain⟨a,ea,_,wa⟩:=DataW.trod_int he hy;exact⟨a,ea,wa⟩
  ·exact AF he L ys hys i hi
theorem xd (hu:P.underlying k=some (.array n e))(he:P.underlying e=some (.int .u8))(fW:P.cellsOf e=1)(xG:P.cellsOf k=n){r:Reach}{b0:Nat}{v:Value}(hval:Value.okWide P W r b0 k v)
  {d:DataW H} {ps:List MemPlace} (hd:DataW.Trod enc P W base sp held k v d ps):∃l:aO,l.length=n∧v= .agg (l.map bv).toArray:=by
 obtain⟨xs,rfl,hn⟩:∃xs:Array Value,v= .agg xs∧xs.size=n:=by simp only[Value.okWide,hu] at hval;obtain⟨cs,h1,h2,_⟩:=hval;exact⟨cs,h1,by rw[h2,xG]⟩
 obtain⟨fuel,hf⟩:=hd;cases fuel with
 |zero=>simp[DataW.trod] at hf
 |succ m=>
  rw[DataW.trod_step] at hf;unfold DataW.trodStep at hf;simp only[hu,Value.cells] at hf;rw[if_pos (by rw[xG];simpa using hn)] at hf;simp only[Option.map_eq_some_iff] at hf;obtain⟨ys,hy,_⟩:=hf;have J5:=AF he _ ys hy;rw[fW] at J5;have hc:∀i (hi:i<n),∃c:UInt8,xs[i]'(by omega)=bv c:=by
   intro i hi;obtain⟨z,hz,hw⟩:=J5 i (by simpa using hi);have hb:0≤z∧z≤255:=by simpa[Lit.wf,IntKind.min,IntKind.max,IntKind.signed,IntKind.bits] using hw
   refine⟨UInt8.ofNat z.toNat,?_⟩;have hg:xs.toList[i]'(by simp;omega)= .int .u8 z:=by
    have:=congrArg (·[0]?) hz;simp at this;have h2:i<xs.size:=by omega
    simpa[List.getElem?_take,h2] using this
   rw[Array.getElem_toList] at hg;rw[hg,bv]
   congr 1
   simp;omega
  refine⟨(List.range n).map λi=>if h:i<n then(hc i h).choose else 0,by simp,?_⟩
  congr 1
  apply Array.ext
  ·simp[hn]
  ·intro i h1 h2;have hi:i<n:=by omega
   simp[hi];exact(hc i hi).choose_spec
end
set_option linter.unusedVariables false
open Go.RowKit
def sQ (w:aw)(g:Nat)(l:List (BitVec 32)):Prop:=w.heap[g]?=some (.cells (l.map uv).toArray 198 (0,0))
theorem sQ.set {w:aw}{g:Nat}{l:List (BitVec 32)}(h:sQ w g l)(i:Nat)(x:BitVec 32):sQ (w.setCell ⟨g,i,none⟩ (uv x)) g (l.set i x):=by have:=heap_setCell_same w g i _ _ (uv x) h;unfold sQ;rw[this,List.map_set];simp
theorem sQ.drew {w:aw}{g:Nat}{l:List (BitVec 32)}(h:sQ w g l):sQ w.drew g l:=h
theorem sQ.word {w:aw}{g:Nat}{l:List (BitVec 32)}(h:sQ w g l)(i:Nat)(hi:i<l.length):
  w.cell? ⟨g,i,none⟩=some (.int .u32 ((bG l i).toNat:Int))∧w.frozen? ⟨g,i,none⟩=false:=by
 refine⟨?_,frozen_of_row w g i _ _ h⟩;rw[cell_of_row w g i _ _ (0,0) h,oM l i hi];simp[hi,uv]
theorem sQ.lt {w:aw}{g:Nat}{l:List (BitVec 32)}(h:sQ w g l):g<w.heap.size:=(gD.1 h).1
theorem sQ.later {w w':aw}{g:Nat}{l:List (BitVec 32)}(h:sQ w g l)(hb:Below w.heap.size w w'):sQ w' g l:=by unfold sQ;rw[hb.block g h.lt];exact h
theorem Qz (y z:BitVec 32):bits .xor .u32 (y.toNat:Int) (z.toNat:Int)=((y^^^z).toNat:Int):=xor_val y z
theorem Cp (g:Nat)(l:List (BitVec 32))(a b d:Nat)(s:Int)(w:aw)(hS:sQ w g l)(ha:a<l.length)(hb:b<l.length)(hd:d<l.length)(LM:a≠d):
  Calls prog 173 #[.pointer (some ⟨g,a,none⟩),.pointer (some ⟨g,b,none⟩),.pointer (some ⟨g,d,none⟩),.int .i64 s] w λe w'=>(∃v,e= .returned v)∧sQ w' g (uV l a b d s)∧w.grownBy w' (some g):=by
 obtain⟨ca,fa⟩:=hS.word a ha;obtain⟨cb,fb⟩:=hS.word b hb;obtain⟨x,hx⟩:=aW (bG l a+bG l b);have HV:ae ((((bG l a).toNat:Int)+((bG l b).toNat:Int)) % 4294967296=(x.toNat:Int)):=by show _=_;rw[Hb,hx]
 have gg:ae (sQ (w.drew.setCell ⟨g,a,none⟩ (uv x)) g (l.set a x)):=hS.drew.set a _;obtain⟨W0,gK⟩:=aW (w.drew);rw[gK] at gg;obtain⟨W,hW⟩:=aW (W0.setCell ⟨g,a,none⟩ (uv x));rw[hW] at gg;have ca0:W0.cell? ⟨g,a,none⟩=some (.int .u32 ((bG l a).toNat:Int)):=by rw[←gK];exact ca
 have cb0:W0.cell? ⟨g,b,none⟩=some (.int .u32 ((bG l b).toNat:Int)):=by rw[←gK];exact cb
 have fa0:W0.frozen? ⟨g,a,none⟩=false:=by rw[←gK];exact fa
 obtain⟨cd,fd⟩:=gg.o.word d (by simpa using hd);obtain⟨ca2,fa2⟩:=gg.o.word a (by simpa using ha);rw[xy _ _ _ ha] at ca2;rw[gy _ _ _ _ LM] at cd;obtain⟨W1,fg⟩:=aW (W.drew);obtain⟨y,hy⟩:=aW (bG l d^^^x);have HY:ae (bits .xor .u32 ((bG l d).toNat:Int) (x.toNat:Int)=(y.toNat:Int)):=by show _=_;rw[Qz,hy]
 obtain⟨W2,fV⟩:=aW (W1.setCell ⟨g,d,none⟩ (uv (rotl y s)));have fw:ae (W1.setCell ⟨g,d,none⟩ (.int .u32 ((rotl y s).toNat:Int))=W2):=fV;have cd1:W1.cell? ⟨g,d,none⟩=some (.int .u32 ((bG l d).toNat:Int)):=by rw[←fg];exact cd
 have ca1:W1.cell? ⟨g,a,none⟩=some (.int .u32 (x.toNat:Int)):=by rw[←fg];exact ca2
 have fd1:W1.frozen? ⟨g,d,none⟩=false:=by rw[←fg];exact fd
 have oE:ae (sQ W2 g (uV l a b d s)):=by have h1:=(gg.o.drew).set d (rotl y s);rw[fg,fV] at h1;show sQ _ _ _;rw[uV,hx,hy];exact h1
 have HG:ae (w.grownBy W2 (some g)):=by
  have k1:W.os=w.os∧W.tape=w.tape∧W.output=w.output∧w.heap.size≤W.heap.size:=by rw[←hW,←gK];exact⟨rfl,rfl,rfl,by simp⟩
  have k2:W2.os=W.os∧W2.tape=W.tape∧W2.output=W.output∧W.heap.size≤W2.heap.size:=by rw[←fV,←fg];exact⟨rfl,rfl,rfl,by simp⟩
  refine⟨k2.1.trans k1.1,k2.2.1.trans k1.2.1,k2.2.2.1.trans k1.2.2.1,kx k1.2.2.2 k2.2.2.2,λj hj eL=>?_⟩;have hjg:j≠g:=λe=>eL (by rw[e]);rw[←fV,heap_setCell_other W1 ⟨g,d,none⟩ j _ hjg,←fg];show W.heap[j]?=_;rw[←hW,heap_setCell_other W0 ⟨g,a,none⟩ j _ hjg,←gK];rfl
 have fU:ae (W.drew=W1):=fg;have HW:ae (W0.setCell ⟨g,a,none⟩ (.int .u32 (x.toNat:Int))=W):=hW;have pX:ae (w.drew=W0):=gK;clear hS hW hx gK ca cb fa fb fg fV hy cd ca2 fd fa2
 go_enter func173,ntmps173
 go_wp2
 refine ah (G:=bX) (by kernel_rfl) bX.refl bX.trans (by kernel_rfl) [(0,true),(1,true),(2,true),(3,true),(4,true),(5,true),(6,true),(7,true),(8,false)] rfl (by kernel_rfl) ?_;intro KK cA;rw[pX.o]
 iterate 8 (refine aa rfl (by rfl) (v:=?_) ?_ ?_;rotate_left;(rintro w' rfl;go_simp;with_reducible rfl);go_simp)
 refine bp rfl (by rfl) (w':=W) (by rw[←HW.o];go_simp;rw[IntKind.wrap_u32,HV.o]) (by kernel_rfl) ?_;go_simp
 refine az cA ?_
 go_wp2
 refine ah (G:=bX) (by kernel_rfl) bX.refl bX.trans (by kernel_rfl) [(0,true),(1,true),(2,true),(3,true),(4,true),(5,true),(6,true),(7,true),(8,true),(9,false),(10,true),(11,false)] rfl (by kernel_rfl) ?_;intro KK2 ye;rw[fU.o]
 iterate 9 (refine aa rfl (by rfl) (v:=?_) ?_ ?_;rotate_left;(rintro w' rfl;go_simp;with_reducible rfl);go_simp)
 refine aU (f:=163) (args:=#[.int .u32 (y.toNat:Int),.int .i64 s]) rfl (by rfl) (by go_simp;rw[HY.o]) ?_;refine(OH y s _).mono ?_;rintro e w' ⟨rfl,rfl⟩;refine⟨_,rfl,rfl,?_⟩;go_simp
 iterate 1 (refine aa rfl (by rfl) (v:=?_) ?_ ?_;rotate_left;(rintro w' rfl;go_simp;with_reducible rfl);go_simp)
 refine bp rfl (by rfl) (w':=W2) (by rw[←fw.o];go_simp) (by kernel_rfl) ?_;go_simp
 refine az ye ?_
 go_wp2
 go_end0
 exact⟨⟨_,rfl⟩,oE.o,HG.o⟩
theorem Bk (g:Nat)(l:List (BitVec 32))(a b c d:Nat)(w:aw)(hS:sQ w g l)(ha:a<l.length)(hb:b<l.length)(hc:c<l.length)(hd:d<l.length)(LM:a≠d)(rf:c≠b):
  Calls prog 172 #[.pointer (some ⟨g,a,none⟩),.pointer (some ⟨g,b,none⟩),.pointer (some ⟨g,c,none⟩),.pointer (some ⟨g,d,none⟩)] w λe w'=>(∃v,e= .returned v)∧sQ w' g (qtr l a b c d)∧w.grownBy w' (some g):=by
 have HS:ae (sQ w g l):=hS;clear hS
 go_enter func172,ntmps172
 go_wp2_with fail
 refine(Cp g l a b d 16 _ HS.o ha hb hd LM).mono ?_;rintro e w1 ⟨⟨v,rfl⟩,h1,g1⟩;have gg:ae _:=h1;have G1:ae (w.grownBy w1 (some g)):=g1;clear h1 g1
 go_wp2_with fail
 refine(Cp g _ c d b 12 _ gg.o (by simpa[fK] using hc) (by simpa[fK] using hd) (by simpa[fK] using hb) rf).mono ?_;rintro e w2 ⟨⟨v,rfl⟩,h2,g2⟩;have oE:ae _:=h2;have G2:ae (w1.grownBy w2 (some g)):=g2;clear h2 g2
 go_wp2_with fail
 refine(Cp g _ a b d 8 _ oE.o (by simpa[fK] using ha) (by simpa[fK] using hb) (by simpa[fK] using hd) LM).mono ?_;rintro e w3 ⟨⟨v,rfl⟩,h3,g3⟩;have vP:ae _:=h3;have G3:ae (w2.grownBy w3 (some g)):=g3;clear h3 g3
 go_wp2_with fail
 refine(Cp g _ c d b 7 _ vP.o (by simpa[fK] using hc) (by simpa[fK] using hd) (by simpa[fK] using hb) rf).mono ?_;rintro e w4 ⟨⟨v,rfl⟩,h4,g4⟩;have vQ:ae _:=h4;have G4:ae (w3.grownBy w4 (some g)):=g4;clear h4 g4
 go_wp2
 go_end0
 exact⟨⟨_,rfl⟩,vQ.o,((G1.out.trans G2.out).trans G3.out).trans G4.out⟩
structure Jd (w:aw)(g:Nat)(l:List (BitVec 32))(wr:aw):Prop where
 now:sQ wr g l
 grown:w.grownBy wr (some g)
theorem Jd.next {w wr w':aw}{g:Nat}{l l':List (BitVec 32)}(t:Jd w g l wr)(hs:sQ w' g l')(hg:wr.grownBy w' (some g)):Jd w g l' w':=⟨hs,t.grown.trans hg⟩
theorem AH (q c d:Nat)(hq:q<4)(hc:c<4)(hd:d≤12):IntKind.i64.wrap ((d:Int)+(IntKind.i64.wrap ((q:Int)+(c:Int))).tmod 4)=((d+(q+c) % 4:Nat):Int):=by
 have h1:IntKind.i64.wrap ((q:Int)+(c:Int))=((q+c:Nat):Int):=by rw[IntKind.wrap_i64];omega
 have h2:((q+c:Nat):Int).tmod 4=(((q+c) % 4:Nat):Int):=by rw[Int.tmod_eq_emod_of_nonneg (by omega)];omega
 have h3:(q+c) % 4<4:=by omega
 rw[h1,h2];generalize(q+c) % 4=m at h3⊢
 rw[IntKind.wrap_i64];omega
theorem Jd.drew {w wr:aw}{g:Nat}{l:List (BitVec 32)}(t:Jd w g l wr):Jd w g l wr.drew:=t.next t.now (jq wr _)
theorem TP (g:Nat)(l:List (BitVec 32))(w:aw)(hl:l.length=16)(hS:sQ w g l):
  Calls prog 165 #[.pointer (some ⟨g,0,none⟩)] w λe w'=>(∃v,e= .returned v)∧sQ w' g (kz 4 (pk 4 l))∧w.grownBy w' (some g):=by
 have sB:ae (Jd w g l w):=⟨hS,cR w _⟩;clear hS;have jc:∀k,(pk k l).length=16:=λk=>by rw[vV,hl]
 have Ae:∀k,(kz k (pk 4 l)).length=16:=λk=>by rw[si,jc]
 go_enter func165,ntmps165
 go_wp2
 go_loopw [4] (λi wr=>∃j:Nat,j≤4∧i= .int .i64 j∧ae (Jd w g (pk j l) wr)) (λi _=>4-(intOf i).toNat)
 case atStart=>exact⟨0,by omega,rfl,sB⟩
 case round=>
  clear sB;obtain⟨j,hj,rfl,hD⟩:=hrel
  by_cases PW:j<4
  ·obtain⟨p1,uX⟩:∃p,4+j=p:=⟨_,rfl⟩;obtain⟨p2,yM⟩:∃p,8+j=p:=⟨_,rfl⟩;obtain⟨p3,Bh⟩:∃p,12+j=p:=⟨_,rfl⟩;have e1:IntKind.i64.wrap ((4:Int)+(j:Int))=(p1:Int):=by rw[IntKind.wrap_i64];omega
   have e2:IntKind.i64.wrap ((8:Int)+(j:Int))=(p2:Int):=by rw[IntKind.wrap_i64];omega
   have e3:IntKind.i64.wrap ((12:Int)+(j:Int))=(p3:Int):=by rw[IntKind.wrap_i64];omega
   have ZW:(j:Int)<4:=by omega
   have abQ:(j:Int)<16:=by omega
   have abR:(p1:Int)<16:=by omega
   have abS:(p2:Int)<16:=by omega
   have abT:(p3:Int)<16:=by omega
   have Ts:ae (Jd w g (pk j l) wr.drew):=hD.out.drew;have hcj:=jc j;clear hD
   go_wp2
   refine ah (G:=bI g) (by kernel_rfl) (bI.refl g) (bI.trans g) (by kernel_rfl) [(0,true),(1,true),(2,true),(3,true),(4,true),(5,true),(6,true),(7,true),(8,true),(9,true),(10,true),(11,true),(12,true),(13,true),(14,true),(15,true),(16,true),(17,true),(18,true),(19,false)] rfl (by kernel_rfl) ?_;intro KK cA;generalize wr.drew=W at Ts
   iterate 19 (refine aa rfl (by rfl) (v:=?_) ?_ ?_;rotate_left;(intro w' hw';clear hw';go_simp;with_reducible rfl);go_simp)
   refine aU (f:=172) (args:=#[.pointer (some ⟨g,j,none⟩),.pointer (some ⟨g,p1,none⟩),.pointer (some ⟨g,p2,none⟩),.pointer (some ⟨g,p3,none⟩)]) rfl (by rfl) (by go_simp) ?_;refine(Bk g _ j p1 p2 p3 _ Ts.o.now (by omega) (by omega) (by omega) (by omega) (by omega) (by omega)).mono ?_;rintro e w8 ⟨⟨v,rfl⟩,jm,ql⟩;refine⟨_,rfl,ql,?_⟩;have Sf:ae (Jd w g (pk (j+1) l) w8):=by rw[pk,uX,yM,Bh];exact Ts.o.next jm ql
   clear jm ql;go_simp
   refine az cA ?_
   go_wp2
   exact⟨⟨j+1,by omega,by go_num,Sf⟩,by simp[intOf];omega⟩
  ·have ej:j=4:=by omega
   have hjr:¬(j:Int)<4:=by omega
   have zB:ae (Jd w g (pk 4 l) wr):=by rw[←ej];exact hD.out
   clear hD
   go_wp2
   go_loopw [28] (λi wr=>∃j:Nat,j≤4∧i= .int .i64 j∧ae (Jd w g (kz j (pk 4 l)) wr)) (λi _=>4-(intOf i).toNat)
   case atStart=>exact⟨0,by omega,rfl,zB⟩
   case round=>
    clear zB;obtain⟨q,hq,rfl,hE⟩:=hrel
    by_cases ZX:q<4
    ·obtain⟨p1,uX⟩:∃p,4+(q+1) % 4=p:=⟨_,rfl⟩;obtain⟨p2,yM⟩:∃p,8+(q+2) % 4=p:=⟨_,rfl⟩;obtain⟨p3,Bh⟩:∃p,12+(q+3) % 4=p:=⟨_,rfl⟩;have e1:IntKind.i64.wrap ((4:Int)+(IntKind.i64.wrap ((q:Int)+1)).tmod 4)=(p1:Int):=by rw[←uX];exact AH q 1 4 ZX (by omega) (by omega)
     have e2:IntKind.i64.wrap ((8:Int)+(IntKind.i64.wrap ((q:Int)+2)).tmod 4)=(p2:Int):=by rw[←yM];exact AH q 2 8 ZX (by omega) (by omega)
     have e3:IntKind.i64.wrap ((12:Int)+(IntKind.i64.wrap ((q:Int)+3)).tmod 4)=(p3:Int):=by rw[←Bh];exact AH q 3 12 ZX (by omega) (by omega)
     have hlq:(q:Int)<4:=by omega
     have akU:(q:Int)<16:=by omega
     have abR:(p1:Int)<16:=by omega
     have abS:(p2:Int)<16:=by omega
     have abT:(p3:Int)<16:=by omega
     have Tt:ae (Jd w g (kz q (pk 4 l)) wr.drew):=hE.out.drew;have hsq:=Ae q;clear hE
     go_wp2
     refine ah (G:=bI g) (by kernel_rfl) (bI.refl g) (bI.trans g) (by kernel_rfl) [(0,true),(1,true),(2,true),(3,true),(4,true),(5,true),(6,true),(7,true),(8,true),(9,true),(10,true),(11,true),(12,true),(13,true),(14,true),(15,true),(16,true),(17,true),(18,true),(19,true),(20,true),(21,true),(22,true),(23,true),(24,true),(25,false)] rfl (by kernel_rfl) ?_;intro KK cA;generalize wr.drew=W at Tt
     iterate 25 (refine aa rfl (by rfl) (v:=?_) ?_ ?_;rotate_left;(intro w' hw';clear hw';go_simp;with_reducible rfl);go_simp)
     refine aU (f:=172) (args:=#[.pointer (some ⟨g,q,none⟩),.pointer (some ⟨g,p1,none⟩),.pointer (some ⟨g,p2,none⟩),.pointer (some ⟨g,p3,none⟩)]) rfl (by rfl) (by go_simp) ?_;refine(Bk g _ q p1 p2 p3 _ Tt.o.now (by omega) (by omega) (by omega) (by omega) (by omega) (by omega)).mono ?_;rintro e w8 ⟨⟨v,rfl⟩,jm,ql⟩;refine⟨_,rfl,ql,?_⟩;have I5:ae (Jd w g (kz (q+1) (pk 4 l)) w8):=by rw[kz,uX,yM,Bh];exact Tt.o.next jm ql
     clear jm ql;go_simp
     refine az cA ?_
     go_wp2
     exact⟨⟨q+1,by omega,by go_num,I5⟩,by simp[intOf];omega⟩
    ·have eq:q=4:=by omega
     have hqr:¬(q:Int)<4:=by omega
     have OQ:ae (Jd w g (kz 4 (pk 4 l)) wr):=by have:=hE.out;rw[eq] at this;exact this
     clear hE
     go_wp2
     go_end0
     exact⟨⟨_,rfl⟩,OQ.o.now,OQ.o.grown⟩
def XB (l:List (BitVec 32))(off:Nat)(t:aO):Nat→List (BitVec 32)
 |0=>l
 |k+1=>(XB l off t k).set (off+k) (kL t k)
theorem oH (l:List (BitVec 32))(off:Nat)(t:aO):∀k,(XB l off t k).length=l.length
 |0=>rfl
 |k+1=>by rw[XB,List.length_set,oH l off t k]
theorem MT (key:aO)(xB:BitVec 32)(aq:aO):
  XB (XB [0x61707865#32,0x3320646e#32,0x79622d32#32,0x6b206574#32,0#32,0#32,0#32,0#32,0#32,0#32,0#32,0#32,xB,0#32,0#32,0#32] 4 key 8) 13 aq 3=pG key xB aq:=by
 rfl
theorem Ko (g off n cap b Df gV:Nat)(l:List (BitVec 32))(t:aO)(w:aw)(hS:sQ w g l)(afK:off+n≤l.length)(hn:n≤100)(uj:n≤cap)(hB:bj w (some ⟨b,Df,none⟩) (4*n) t)(yQ:4*n≤gV)(O7:gV≤1000000)(pW:b≠g):
  Calls prog 171 #[.slice (some ⟨g,off,none⟩) n cap,.slice (some ⟨b,Df,none⟩) (4*n:Nat) gV] w λe w'=>(∃v,e= .returned v)∧sQ w' g (XB l off t n)∧w.grownBy w' (some g):=by
 obtain⟨L,hL⟩:=aW (4*n);rw[hL] at hB yQ⊢;have HB:ae (bj w (some ⟨b,Df,none⟩) L t):=hB;have HS:ae (Jd w g l w):=⟨hS,cR w _⟩;clear hB hS
 go_enter func171,ntmps171
 go_wp2
 go_loopw [9] (λi wr=>∃k:Nat,k≤n∧i= .int .i64 k∧ae (Jd w g (XB l off t k) wr)) (λi _=>n-(intOf i).toNat)
 case atStart=>exact⟨0,by omega,rfl,HS⟩
 case round=>
  clear HS;obtain⟨k,hk,rfl,hT⟩:=hrel
  by_cases dN:k<n
  ·obtain⟨p,hp⟩:=aW (4*k);have e1:(k:Int)*4=(p:Int):=by omega
   have i1:(k:Int)<(n:Int):=by omega
   have OU:ae (bj wr (some ⟨b,Df,none⟩) L t):=HB.o.but hT.out.grown pW;have HV:ae ((sW t false p 4:Int) % 4294967296=((kL t k).toNat:Int)):=by show _=_;have:=CE t p;rw[tX,hp];omega
   obtain⟨W,hW⟩:=aW (wr.setCell ⟨g,off+k,none⟩ (uv (kL t k)));have HT:ae (Jd w g (XB l off t (k+1)) W):=by rw[←hW];refine hT.out.next (hT.out.now.set (off+k) _) ⟨rfl,rfl,rfl,by simp,λj hj eL=>?_⟩;exact heap_setCell_other wr ⟨g,off+k,none⟩ j _ (λe=>eL (by rw[e]))
   have HW:ae (wr.setCell ⟨g,off+k,none⟩ (.int .u32 ((kL t k).toNat:Int))=W):=hW;obtain⟨_,fr⟩:=hT.out.now.word (off+k) (by rw[oH];omega);obtain⟨cc,_⟩:=hT.out.now.word (off+k) (by rw[oH];omega);clear hW hT
   go_wp2_with fail
   refine(ue b Df L gV p 4 false t wr (by unfold maxLen;omega) yQ OU.o (by omega) (by omega) (by omega)).mono ?_;rintro e w' ⟨rfl,rfl⟩
   go_wp2
   rw[HV.o,HW.o];exact⟨⟨k+1,by omega,by go_num,HT⟩,by simp[intOf];omega⟩
  ·have ek:k=n:=by omega
   subst ek
   go_wp2
   go_end0
   exact⟨⟨_,rfl⟩,hT.out.now,hT.out.grown⟩
def Dg:Array Value:=(cz 16 (Value.int .u32 0)).toArray
structure WD (w:aw)(key aq:aO)(l:List (BitVec 32))(W:aw):Prop where
 key:W.heap[w.heap.size]?=some (.cells (key.map bv).toArray 24 (0,0))
 aq:W.heap[w.heap.size+1]?=some (.cells (aq.map bv).toArray 158 (0,0))
 out:W.heap[w.heap.size+1+1]?=some (.cells Dg 198 (0,0))
 now:sQ W (w.heap.size+1+1+1) l
 aY:Below w.heap.size w W
theorem WD.next {w W W':aw}{key aq:aO}{l l':List (BitVec 32)}(h:WD w key aq l W)(hs:sQ W' (w.heap.size+1+1+1) l')(hg:W.grownBy W' (some (w.heap.size+1+1+1))):WD w key aq l' W':=by
 have dN:=h.now.lt;refine⟨?_,?_,?_,hs,h.aY.grown hg h.aY.size (λk e=>by cases e;omega)⟩
 ·rw[hg.block _ (by omega) (λe=>by have:=Option.some.inj e;omega)];exact h.key
 ·rw[hg.block _ (by omega) (λe=>by have:=Option.some.inj e;omega)];exact h.aq
 ·rw[hg.block _ (by omega) (λe=>by have:=Option.some.inj e;omega)];exact h.out
theorem WD.new (w:aw)(key aq:aO)(l:List (BitVec 32)):
  WD w key aq l ((((w.alloc (.cells (key.map bv).toArray 24)).alloc (.cells (aq.map bv).toArray 158)).alloc (.cells Dg 198)).alloc (.cells (l.map uv).toArray 198)):=by
 refine⟨?_,?_,?_,?_,?_⟩
 ·rw[jE _ _ _ (by simp<;>omega),jE _ _ _ (by simp<;>omega),jE _ _ _ (by simp)];exact eC w _
 ·rw[jE _ _ _ (by simp<;>omega),jE _ _ _ (by simp)];have:=eC (w.alloc (.cells (key.map bv).toArray 24)) (.cells (aq.map bv).toArray 158)
  rwa [fx] at this
 ·rw[jE _ _ _ (by simp)];have:=eC ((w.alloc (.cells (key.map bv).toArray 24)).alloc (.cells (aq.map bv).toArray 158)) (.cells Dg 198)
  rwa [fx,fx] at this
 ·have:=eC (((w.alloc (.cells (key.map bv).toArray 24)).alloc (.cells (aq.map bv).toArray 158)).alloc (.cells Dg 198)) (.cells (l.map uv).toArray 198)
  rwa [fx,fx,fx] at this
 ·exact((eF.alloc (by simp) _).alloc (by simp<;>omega) _).alloc (by simp<;>omega) _
theorem X6 (key aq:aO)(xB:BitVec 32)(w:aw)(hk:key.length=32)(hn:aq.length=12):
  Calls prog 164 #[.agg (key.map bv).toArray,.int .u32 (xB.toNat:Int),.agg (aq.map bv).toArray] w λe w'=>e= .returned (.agg ((pG key xB aq).map uv).toArray)∧Below w.heap.size w w':=by
 go_enter func164,ntmps164
 go_wp2
 refine bY (P:=Code.wp prog _ _ _) (R:=WD w key aq [0x61707865#32,0x3320646e#32,0x79622d32#32,0x6b206574#32,0#32,0#32,0#32,0#32,0#32,0#32,0#32,0#32,xB,0#32,0#32,0#32]) _ (WD.new w key aq _) ?_;intro W0 WE;obtain⟨l0,xK⟩:=aW ([0x61707865#32,0x3320646e#32,0x79622d32#32,0x6b206574#32,0#32,0#32,0#32,0#32,0#32,0#32,0#32,0#32,xB,0#32,0#32,0#32]);rw[xK] at WE;have Z7:l0.length=16:=by rw[←xK];rfl
 have HE:ae (XB (XB l0 4 key 8) 13 aq 3=pG key xB aq):=by rw[←xK];exact MT key xB aq
 have zx:ae (WD w key aq l0 W0.drew):=WE.next WE.now (jq W0 _);clear WE xK;refine ah (G:=bI (w.heap.size+1+1+1)) (by kernel_rfl) (bI.refl _) (bI.trans _) (by kernel_rfl) [(0,true),(1,true),(2,false)] rfl (by kernel_rfl) ?_;intro KK cA;generalize W0.drew=W1 at zx
 iterate 2 (refine aa rfl (by rfl) (v:=?_) ?_ ?_;rotate_left;(intro w' hw';clear hw';go_simp;with_reducible rfl);go_simp)
 refine aU (f:=171) (args:=#[.slice (some ⟨w.heap.size+1+1+1,4,none⟩) 8 12,.slice (some ⟨w.heap.size,0,none⟩) 32 32]) rfl (by rfl) (by go_simp) ?_;refine(Ko (w.heap.size+1+1+1) 4 8 12 w.heap.size 0 32 l0 key _ zx.o.now (by omega) (by omega) (by omega) (xf 32 hk zx.o.key) (by omega) (by omega) (by omega)).mono ?_;rintro e w2 ⟨⟨v,rfl⟩,iJ,kj⟩;refine⟨_,rfl,kj,?_⟩;have Ja:ae (WD w key aq (XB l0 4 key 8) w2.drew):=(zx.o.next iJ kj).next iJ (jq w2 _);clear iJ kj zx;go_simp
 refine az cA ?_
 go_wp2
 refine ah (G:=bI (w.heap.size+1+1+1)) (by kernel_rfl) (bI.refl _) (bI.trans _) (by kernel_rfl) [(0,true),(1,true),(2,false)] rfl (by kernel_rfl) ?_;intro KK2 ye;generalize w2.drew=W2 at Ja
 iterate 2 (refine aa rfl (by rfl) (v:=?_) ?_ ?_;rotate_left;(intro w' hw';clear hw';go_simp;with_reducible rfl);go_simp)
 refine aU (f:=171) (args:=#[.slice (some ⟨w.heap.size+1+1+1,13,none⟩) 3 3,.slice (some ⟨w.heap.size+1,0,none⟩) 12 12]) rfl (by rfl) (by go_simp) ?_;refine(Ko (w.heap.size+1+1+1) 13 3 3 (w.heap.size+1) 0 12 _ aq _ Ja.o.now (by rw[oH];omega) (by omega) (by omega) (xf 12 hn Ja.o.aq) (by omega) (by omega) (by omega)).mono ?_;rintro e w3 ⟨⟨v,rfl⟩,ur,uu⟩;refine⟨_,rfl,uu,?_⟩;have HL3:ae (WD w key aq (pG key xB aq) w3):=by rw[←HE.o];exact Ja.o.next ur uu
 clear ur uu Ja HE;go_simp
 refine az ye ?_;have zD:=tZ key xB aq;obtain⟨cl,jc⟩:=aW (pG key xB aq);rw[jc] at HL3 zD;have HCL:ae (pG key xB aq=cl):=jc;clear jc;have IB:ae ((prog.info? 198).map (·.size)=some (cl.map uv).toArray.size):=by
  have e1:(prog.info? 198).map (·.size)=some 16:=by kernel_rfl
  show _=_;rw[e1];simp[zD]
 have xA:=aL w3 (w.heap.size+1+1) _ _ (cl.map uv) HL3.o.out (by simp[zD,Dg]) (cj cl);have bh:=setRow_heap w3 (w.heap.size+1+1) _ (cl.map uv).toArray _ _ HL3.o.out;have bR:ae (Below w.heap.size w (w3.setRow (w.heap.size+1+1) (cl.map uv).toArray)):=below_setRow HL3.o.aY (by omega) _;obtain⟨W4,fj⟩:=aW (w3.setRow (w.heap.size+1+1) (cl.map uv).toArray);rw[fj] at xA bh bR;have cY:ae (W4.heap[w.heap.size+1+1]?=some (.cells (cl.map uv).toArray 198 (0,0))):=bh;clear bh fj
 go_wp2_with (first|refine wpList_load_row rfl 198 _ rfl (w.heap.size+1+1+1) rfl 198 _ (0,0) _ HL3.o.now underlying198 rfl IB.out ?_)
 (try simp only[nu,Exit.then])
 refine bodyPost_ret (results_cell_row rfl _ _ (w.heap.size+1+1) 198 _ (0,0) _ rfl cY.o underlying198 rfl IB.out) rfl ?_;exact⟨by rw[HCL.o],bR.o⟩
def wo:Array Value:=(cz 64 (Value.int .u8 0)).toArray
structure BK (w:aw)(key aq:aO)(W:aw):Prop where
 k:W.heap[w.heap.size]?=some (.cells (key.map bv).toArray 24 (0,0))
 n:W.heap[w.heap.size+1]?=some (.cells (aq.map bv).toArray 158 (0,0))
 out:W.heap[w.heap.size+1+1]?=some (.cells wo 142 (0,0))
 aY:Below w.heap.size w W
theorem BK.new (w:aw)(key aq:aO):BK w key aq (((w.alloc (.cells (key.map bv).toArray 24)).alloc (.cells (aq.map bv).toArray 158)).alloc (.cells wo 142)):=by
 refine⟨?_,?_,?_,?_⟩
 ·rw[jE _ _ _ (by simp<;>omega),jE _ _ _ (by simp)];exact eC w _
 ·rw[jE _ _ _ (by simp)];have:=eC (w.alloc (.cells (key.map bv).toArray 24)) (.cells (aq.map bv).toArray 158)
  rwa [fx] at this
 ·have:=eC ((w.alloc (.cells (key.map bv).toArray 24)).alloc (.cells (aq.map bv).toArray 158)) (.cells wo 142)
  rwa [fx,fx] at this
 ·exact(eF.alloc (by simp) _).alloc (by simp<;>omega) _
theorem xO (w:aw)(l:List (BitVec 32))(hn:l.length=16)(c:Array Value)(hc:c.size=16):
  (storeCells ⟨w.heap.size,0,none⟩ (l.map uv)).run prog (w.alloc (.cells c 198))= .ok () (w.alloc (.cells (l.map uv).toArray 198)):=by
 have e1:(prog.info? 198).map (·.size)=some 16:=by kernel_rfl
 have:=run_storeCells_new (P:=prog) w 198 c (l.map uv).toArray (by rw[e1];simp[hn]) (by simp[hc,hn]) (by rw[Array.all_eq_true_iff_forall_mem];intro u hu;simp only[List.mem_toArray] at hu;exact cj l u hu)
 exact this
structure BT (w:aw)(g0 g1:Nat)(l0 l:List (BitVec 32))(W:aw):Prop where
 was:sQ W g0 l0
 now:sQ W g1 l
 out:W.heap[w.heap.size+1+1]?=some (.cells wo 142 (0,0))
 b0:w.heap.size+1+1<g0
 b1:w.heap.size+1+1<g1
 ne:g0≠g1
 aY:Below w.heap.size w W
theorem BT.next {w W W':aw}{g0 g1:Nat}{l0 l l':List (BitVec 32)}(h:BT w g0 g1 l0 l W)(hs:sQ W' g1 l')(hg:W.grownBy W' (some g1)):BT w g0 g1 l0 l' W':=by
 have h0:=h.b0;have h1:=h.b1;have dN:=h.now.lt;refine⟨?_,hs,?_,h0,h1,h.ne,h.aY.grown hg h.aY.size (λk e=>by cases e;omega)⟩
 ·show W'.heap[g0]?=_;rw[hg.block _ h.was.lt (λe=>h.ne (Option.some.inj e))];exact h.was
 ·rw[hg.block _ (by omega) (λe=>by have:=Option.some.inj e;omega)];exact h.out
theorem BT.new {w W0 w1:aw}{key aq:aO}(cl:List (BitVec 32))(h0:BK w key aq W0)(ve:W0.heap.size=w.heap.size+1+1+1)(hb:Below W0.heap.size W0 w1):
  BT w w1.heap.size (w1.heap.size+1) cl cl ((w1.alloc (.cells (cl.map uv).toArray 198)).alloc (.cells (cl.map uv).toArray 198)):=by
 have hs:=hb.size;refine⟨?_,?_,?_,by omega,by omega,by omega,?_⟩
 ·unfold sQ;rw[jE _ _ _ (by simp)];exact eC w1 _
 ·have:=eC (w1.alloc (.cells (cl.map uv).toArray 198)) (.cells (cl.map uv).toArray 198)
  rwa [fx] at this
 ·rw[jE _ _ _ (by simp;omega),jE _ _ _ (by omega),hb.block (w.heap.size+1+1) (by omega)];exact h0.out
 ·have h2:Below w.heap.size w w1:=h0.aY.trans (hb.mono (by omega));have:=h2.size;exact(h2.alloc h2.size _).alloc (by simp;omega) _
def jZ (key:aO)(xB:BitVec 32)(aq:aO)(k:Nat):bK:=(rD key xB aq k).map bv++cz (64-4*k) (.int .u8 0)
theorem Hk (key:aO)(xB:BitVec 32)(aq:aO)(k:Nat)(hk:k≤16):(jZ key xB aq k).length=64:=by simp[jZ,pK];omega
theorem MU (key:aO)(xB:BitVec 32)(aq:aO)(k:Nat)(hk:k<16)(n:Nat)(hn:(yZ key xB aq k).toNat=n):
  (jZ key xB aq k).take (4*k)++(im 4 n false).map bv++(jZ key xB aq k).drop (4*k+4)=jZ key xB aq (k+1):=by
 have hl:((rD key xB aq k).map bv).length=4*k:=by simp[pK]
 have e1:(jZ key xB aq k).take (4*k)=(rD key xB aq k).map bv:=by unfold jZ;rw[←hl,List.take_left]
 have e2:(jZ key xB aq k).drop (4*k+4)=cz (64-4*(k+1)) (.int .u8 0):=by
  unfold jZ;rw[←List.drop_drop,←hl,List.drop_left,hl,List.drop_replicate]
  congr 1
 rw[e1,e2];unfold jZ;rw[rD,hn,List.map_append];simp[im]
structure BO (w:aw)(g0 g1 g2:Nat)(l0 l:List (BitVec 32))(o:bK)(W:aw):Prop where
 was:sQ W g0 l0
 now:sQ W g1 l
 res:W.heap[w.heap.size+1+1]?=some (.cells wo 142 (0,0))
 out:W.heap[g2]?=some (.cells o.toArray 142 (0,0))
 b2:w.heap.size+1+1<g2
 n0:g0≠g2
 n1:g1≠g2
 aY:Below w.heap.size w W
theorem BO.new {w W:aw}{g0 g1:Nat}{l0 l:List (BitVec 32)}(h:BT w g0 g1 l0 l W):BO w g0 g1 W.heap.size l0 l (cz 64 (.int .u8 0)) (W.alloc (.cells wo 142)):=by
 have h0:=h.was.lt;have h1:=h.now.lt;have h2:w.heap.size+1+1<W.heap.size:=(gD.1 h.out).1;refine⟨?_,?_,?_,eC W _,h2,by omega,by omega,h.aY.alloc h.aY.size _⟩
 ·unfold sQ;rw[jE _ _ _ h0];exact h.was
 ·unfold sQ;rw[jE _ _ _ h1];exact h.now
 ·rw[jE _ _ _ h2];exact h.out
theorem BO.later {w W W':aw}{g0 g1 g2:Nat}{l0 l:List (BitVec 32)}{o:bK}(h:BO w g0 g1 g2 l0 l o W)(hb:Below W.heap.size W W'):BO w g0 g1 g2 l0 l o W':=
 ⟨h.was.later hb,h.now.later hb,by rw[hb.block _ (gD.1 h.res).1];exact h.res,by rw[hb.block _ (gD.1 h.out).1];exact h.out,h.b2,h.n0,h.n1,h.aY.trans (hb.mono h.aY.size)⟩
theorem BO.put {w W:aw}{g0 g1 g2:Nat}{l0 l:List (BitVec 32)}{o:bK}(h:BO w g0 g1 g2 l0 l o W)(o':bK):BO w g0 g1 g2 l0 l o' (W.setRow g2 o'.toArray):=by
 have h2:=h.b2;refine⟨?_,?_,?_,setRow_heap W g2 _ _ _ _ h.out,h.b2,h.n0,h.n1,below_setRow h.aY (by omega) _⟩
 ·unfold sQ;rw[setRow_other _ _ _ _ h.n0];exact h.was
 ·unfold sQ;rw[setRow_other _ _ _ _ h.n1];exact h.now
 ·rw[setRow_other _ _ _ _ (by omega)];exact h.res
theorem bI.word {w w':aw}{g g':Nat}{l:List (BitVec 32)}(h:sQ w g' l)(eL:g'≠g)(hb:bI g w w')(i:Nat)(hi:i<l.length):w'.cell? ⟨g',i,none⟩=some (.int .u32 ((bG l i).toNat:Int)):=
 World.grownBy.cell hb (h.word i hi).1 (λe=>eL (by cases e;rfl))
theorem F5 (key aq:aO)(xB:BitVec 32)(w:aw)(hk:key.length=32)(hn:aq.length=12):
  Calls prog 154 #[.agg (key.map bv).toArray,.int .u32 (xB.toNat:Int),.agg (aq.map bv).toArray] w λe w'=>e= .returned (.agg ((Fb key xB aq).map bv).toArray)∧Below w.heap.size w w':=by
 have IK:ae ((prog.info? 24).map (·.size)=some (key.map bv).toArray.size):=by
  have e1:(prog.info? 24).map (·.size)=some 32:=by kernel_rfl
  show _=_;rw[e1];simp[hk]
 have IN:ae ((prog.info? 158).map (·.size)=some (aq.map bv).toArray.size):=by
  have e1:(prog.info? 158).map (·.size)=some 12:=by kernel_rfl
  show _=_;rw[e1];simp[hn]
 go_enter func154,ntmps154
 go_wp2_with (first|refine wpList_load_row rfl 24 _ rfl w.heap.size rfl 24 _ (0,0) _ (BK.new w key aq).k underlying24 rfl IK.out ?_|refine wpList_load_row rfl 158 _ rfl (w.heap.size+1) rfl 158 _ (0,0) _ (BK.new w key aq).n underlying158 rfl IN.out ?_)
 refine(X6 key aq xB _ hk hn).mono ?_;rintro e w1 ⟨rfl,ck⟩;have zD:=tZ key xB aq;obtain⟨cl,jc⟩:=aW (pG key xB aq);rw[jc] at zD⊢;have HCL:ae (pG key xB aq=cl):=jc;clear jc;have iG:ae (BT w w1.heap.size (w1.heap.size+1) cl cl ((w1.alloc (.cells (cl.map uv).toArray 198)).alloc (.cells (cl.map uv).toArray 198))):=BT.new cl (BK.new w key aq) (by simp) ck;have gN:=xO w1 cl zD;have eO:=xO (w1.alloc (.cells (cl.map uv).toArray 198)) cl zD;rw[fx] at eO;have IB:ae ((prog.info? 198).map (·.size)=some (cl.map uv).toArray.size):=by
  have e1:(prog.info? 198).map (·.size)=some 16:=by kernel_rfl
  show _=_;rw[e1];simp[zD]
 clear ck
 go_wp2_with (first|refine wpList_load_row rfl 198 _ rfl w1.heap.size rfl 198 _ (0,0) _ (eC w1 _) underlying198 rfl IB.out ?_)
 clear gN eO IB IK IN;generalize(w1.alloc (.cells (cl.map uv).toArray 198)).alloc (.cells (cl.map uv).toArray 198)=W1 at iG⊢
 obtain⟨g0,hg0⟩:=aW (w1.heap.size);obtain⟨g1,uB⟩:=aW (w1.heap.size+1);rw[uB] at iG⊢;rw[hg0] at iG⊢;clear hg0 uB;have rp:∀k,(turned k cl).length=16:=λk=>by rw[xz,zD]
 go_loopw [16] (λi wr=>∃k:Nat,k≤10∧i= .int .i64 k∧ae (BT w g0 g1 cl (turned k cl) wr)) (λi _=>10-(intOf i).toNat)
 case atStart=>exact⟨0,by omega,rfl,iG⟩
 case round=>
  clear iG;obtain⟨k,hk,rfl,hT⟩:=hrel
  by_cases dN:k<10
  ·have sM:(k:Int)<10:=by omega
   go_wp2_with fail
   refine(TP g1 _ _ (rp k) hT.out.now).mono ?_;rintro e w8 ⟨⟨v,rfl⟩,jm,ql⟩;have HT8:ae (BT w g0 g1 cl (turned (k+1) cl) w8):=hT.out.next jm ql;clear jm ql
   go_wp2
   exact⟨⟨k+1,by omega,by go_num,HT8⟩,by simp[intOf];omega⟩
  ·have ek:k=10:=by omega
   have G':¬(k:Int)<10:=by omega
   have HT:ae (BT w g0 g1 cl (turned 10 cl) wr):=by have:=hT.out;rw[ek] at this;exact this
   clear hT
   go_wp2
   have yO:ae (BO w g0 g1 wr.heap.size cl (turned 10 cl) (jZ key xB aq 0) (wr.alloc (.cells wo 142))):=BO.new HT.o;refine bY (P:=Code.wp prog _ _ _) (R:=λW=>ae (BO w g0 g1 wr.heap.size cl (turned 10 cl) (jZ key xB aq 0) W)) _ yO ?_;intro W2 hO;clear yO HT;generalize wr.heap.size=g2 at hO⊢
   go_loopw [20] (λi wr=>∃k:Nat,k≤16∧i= .int .i64 k∧ae (BO w g0 g1 g2 cl (turned 10 cl) (jZ key xB aq k) wr)) (λi _=>16-(intOf i).toNat)
   case atStart=>exact⟨0,by omega,rfl,hO⟩
   case round=>
    clear hO;obtain⟨k,hk,rfl,hO⟩:=hrel
    by_cases dN:k<16
    ·obtain⟨x,hx⟩:=aW (bG (turned 10 cl) k);obtain⟨y,hy⟩:=aW (bG cl k);obtain⟨n,Hl⟩:=aW ((x+y).toNat);obtain⟨p,hp⟩:=aW (4*k);have Az:(yZ key xB aq k).toNat=n:=by rw[yZ,HCL.o,hx,hy,Hl]
     have i1:(k:Int)<16:=by omega
     have e1:IntKind.i64.wrap ((k:Int)*4)=(p:Int):=by rw[IntKind.wrap_i64];omega
     have HE:ae ((jZ key xB aq k).take p++(im 4 n false).map bv++(jZ key xB aq k).drop (p+4)=jZ key xB aq (k+1)):=by rw[←hp];exact MU key xB aq k dN n Az
     have HU:ae (IntKind.u32.wrap ((x.toNat:Int)+(y.toNat:Int))=(n:Int)):=by show _=_;rw[IntKind.wrap_u32,Hb,Hl]
     have ab8:ae (IntKind.u64.wrap (n:Int)=(n:Int)):=by show _=_;have:=(x+y).isLt;rw[IntKind.wrap_u64];omega
     obtain⟨W,hW⟩:=aW (wr.drew);have cL:Below wr.heap.size wr W:=by rw[←hW];exact gl
     have Sk:ae (BO w g0 g1 g2 cl (turned 10 cl) (jZ key xB aq k) W):=hO.out.later cL;have HW:ae (wr.drew=W):=hW;have oR:∀w',bI g2 W w'→w'.cell? ⟨g1,k,none⟩=some (.int .u32 (x.toNat:Int)):=λw' hw'=>by rw[←hx];exact bI.word Sk.o.now Sk.o.n1 hw' k (by rw[rp];omega)
     have om:∀w',bI g2 W w'→w'.cell? ⟨g0,k,none⟩=some (.int .u32 (y.toNat:Int)):=λw' hw'=>by rw[←hy];exact bI.word Sk.o.was Sk.o.n0 hw' k (by omega)
     have h64:(p:Int)≤64:=by omega
     have aly:(p:Int)<64:=by omega
     have alz:¬64=p:=by omega
     clear hO cL hW hx hy Hl Az
     go_wp2
     refine ah (G:=bI g2) (by kernel_rfl) (bI.refl g2) (bI.trans g2) (by kernel_rfl) [(0,true),(1,true),(2,true),(3,true),(4,true),(5,true),(6,true),(7,true),(8,true),(9,true),(10,true),(11,false),(12,false)] rfl (by kernel_rfl) ?_;intro KK cA;rw[HW.o]
     iterate 11 (refine aa rfl (by rfl) (v:=?_) ?_ ?_;rotate_left;(intro w' hw';have q1:=oR w' hw';have q2:=om w' hw';go_simp;with_reducible rfl);go_simp)
     refine aU (f:=76) (args:=#[.slice none 0 0,.int .i64 4,.int .u64 (n:Int),.bool false]) rfl (by rfl) (by go_simp;rw[HU.o,ab8.o]) ?_;refine(ug none 0 0 4 n false [] _ (by omega) ⟨rfl,.inl rfl⟩ 4 (by decide)).mono ?_;rintro e w8 ⟨g8,rfl,ql,i9,Bi⟩;refine⟨_,rfl,bI.below g2 i9,?_⟩;have F6:=Sk.o.later i9;have alA:g2<w8.heap.size:=(gD.1 F6.out).1;have hol:=Hk key xB aq k hk;have lY:=run_copy_row prog w8 22 22 3 5 g2 p (64-p) (64-p) ⟨g8,0,none⟩ (0+4) (0+4) _ _ ((im 4 n false).map bv) underlying22 Tryz.info1U8 F6.out
      (by rw[List.length_map,eU];show 4=min (0+4) (64-p);omega) (λj v hj=>Bi.cells _ rfl j v (by simpa using hj)) (by simp[eU,hol];omega) (bd _)
     have Be:((im 4 n false).map bv).length=4:=by simp[eU]
     rw[Be] at lY;simp only[] at lY;rw[HE.o] at lY;have X7:ae (BO w g0 g1 g2 cl (turned 10 cl) (jZ key xB aq (k+1)) (w8.setRow g2 (jZ key xB aq (k+1)).toArray)):=F6.put _;have X8:ae (bI g2 w8 (w8.setRow g2 (jZ key xB aq (k+1)).toArray)):=bI.setRow _ _ _;generalize w8.setRow g2 (jZ key xB aq (k+1)).toArray=W9 at lY X7 X8
     clear oR om F6 Bi i9 HE HU Sk hol;go_simp
     refine fZ (w':=W9) (v:=goInt 4) rfl (by rfl) (by go_simp) X8.o ?_;go_simp
     refine az cA ?_
     go_wp2
     exact⟨⟨k+1,by omega,by go_num,X7⟩,by simp[intOf];omega⟩
    ·have ek:k=16:=by omega
     have G':¬(k:Int)<16:=by omega
     obtain⟨B,hB⟩:=aW (Fb key xB aq);have MV:B.length=64:=by rw[←hB];exact qg key xB aq
     have HBe:ae (Fb key xB aq=B):=hB;have HO:ae (BO w g0 g1 g2 cl (turned 10 cl) (B.map bv) wr):=by
      have:=hO.out;rw[ek] at this;have e:jZ key xB aq 16=B.map bv:=by rw[←hB];simp[jZ,Fb]
      rw[e] at this;exact this
     have IB:ae ((prog.info? 142).map (·.size)=some (B.map bv).toArray.size):=by
      have e1:(prog.info? 142).map (·.size)=some 64:=by kernel_rfl
      show _=_;rw[e1];simp[MV]
     have xA:=aL wr (w.heap.size+1+1) _ _ (B.map bv) HO.o.res (by simp[MV,wo]) (bd B);have bh:=setRow_heap wr (w.heap.size+1+1) _ (B.map bv).toArray _ _ HO.o.res;have bR:ae (Below w.heap.size w (wr.setRow (w.heap.size+1+1) (B.map bv).toArray)):=below_setRow HO.o.aY (by omega) _;obtain⟨W4,fj⟩:=aW (wr.setRow (w.heap.size+1+1) (B.map bv).toArray);rw[fj] at xA bh bR;have cY:ae (W4.heap[w.heap.size+1+1]?=some (.cells (B.map bv).toArray 142 (0,0))):=bh;clear bh fj hO hB
     go_wp2_with (first|refine wpList_load_row rfl 142 _ rfl g2 rfl 142 _ (0,0) _ HO.o.out underlying142 rfl IB.out ?_)
     (try simp only[nu,Exit.then])
     refine bodyPost_ret (results_cell_row rfl _ _ (w.heap.size+1+1) 142 _ (0,0) _ rfl cY.o underlying142 rfl IB.out) rfl ?_;exact⟨by rw[HBe.o],bR.o⟩
structure SK (w:aw)(key aq:aO)(W:aw):Prop where
 k:W.heap[w.heap.size]?=some (.cells (key.map bv).toArray 24 (0,0))
 n:W.heap[w.heap.size+1]?=some (.cells (aq.map bv).toArray 158 (0,0))
 size:w.heap.size+1+1≤W.heap.size
 aY:Below w.heap.size w W
theorem SK.new (w:aw)(key aq:aO):SK w key aq ((w.alloc (.cells (key.map bv).toArray 24)).alloc (.cells (aq.map bv).toArray 158)):=by
 refine⟨?_,?_,by simp,?_⟩
 ·rw[jE _ _ _ (by simp)];exact eC w _
 ·have:=eC (w.alloc (.cells (key.map bv).toArray 24)) (.cells (aq.map bv).toArray 158)
  rwa [fx] at this
 ·exact eF.alloc (by simp) _
theorem SK.later {w W W':aw}{key aq:aO}(h:SK w key aq W)(hb:Below (w.heap.size+1+1) W W'):SK w key aq W':=
 ⟨by rw[hb.block _ (by omega)];exact h.k,by rw[hb.block _ (by omega)];exact h.n,kx h.size hb.size,h.aY.trans (hb.mono (by omega))⟩
theorem vk (w:aw)(B:aO)(hn:B.length=64)(c:Array Value)(hc:c.size=64):
  (storeCells ⟨w.heap.size,0,none⟩ (B.map bv)).run prog (w.alloc (.cells c 142))= .ok () (w.alloc (.cells (B.map bv).toArray 142)):=by
 have e1:(prog.info? 142).map (·.size)=some 64:=by kernel_rfl
 exact run_storeCells_new (P:=prog) w 142 c (B.map bv).toArray (by rw[e1];simp[hn]) (by simp[hc,hn]) (by rw[Array.all_eq_true_iff_forall_mem];intro u hu;simp only[List.mem_toArray] at hu;exact bd B u hu)
theorem TQ (xB:BitVec 32)(k:Nat):(((xB+BitVec.ofNat 32 k).toNat:Int)+1) % 4294967296=((xB+BitVec.ofNat 32 (k+1)).toNat:Int):=by simp only[BitVec.toNat_add,BitVec.toNat_ofNat];omega
theorem MW (key aq:aO)(xB:BitVec 32)(a:bW)(len cap:Nat)(l:aO)(w:aw)(hk:key.length=32)(hn:aq.length=12)(hB:bj w a len l)(FW:len≤1000000)(ig:len≤cap)(m7:cap≤maxLen):
  Calls prog 145 #[.agg (key.map bv).toArray,.int .u32 (xB.toNat:Int),.agg (aq.map bv).toArray,.slice a len cap] w λe w'=>∃v,e= .returned v∧Below w.heap.size w w'∧w'.ownsRow w.heap.size 5 1 v len ((vW key xB aq l).map bv):=by
 have IK:ae ((prog.info? 24).map (·.size)=some (key.map bv).toArray.size):=by
  have e1:(prog.info? 24).map (·.size)=some 32:=by kernel_rfl
  show _=_;rw[e1];simp[hk]
 have IN:ae ((prog.info? 158).map (·.size)=some (aq.map bv).toArray.size):=by
  have e1:(prog.info? 158).map (·.size)=some 12:=by kernel_rfl
  show _=_;rw[e1];simp[hn]
 have hl:=hB.1;have ab9:cap≤9223372036854775807:=by unfold maxLen at m7;exact m7
 clear m7;have HB:ae (bj w a len l):=hB;clear hB;have uo:ae (SK w key aq ((w.alloc (.cells (key.map bv).toArray 24)).alloc (.cells (aq.map bv).toArray 158))):=SK.new w key aq;obtain⟨Z,hZ,vD⟩:=Aq ((w.alloc (.cells (key.map bv).toArray 24)).alloc (.cells (aq.map bv).toArray 158)) len (by omega);rw[fx,fx] at vD;have yO:ae ((((w.alloc (.cells (key.map bv).toArray 24)).alloc (.cells (aq.map bv).toArray 158)).alloc (.cells Z.toArray 5)).ownsRow (w.heap.size+1+1) 5 1 (.slice (some ⟨w.heap.size+1+1,0,none⟩) 0 len) 0 (([]:aO).map bv)):=by have:=World.ownsRow_made (base:=w.heap.size+1+1) (e:=5) (size:=1) ((w.alloc (.cells (key.map bv).toArray 24)).alloc (.cells (aq.map bv).toArray 158)) Z.toArray len (by simp) (by unfold maxLen;omega) (by simp[hZ]);rw[fx,fx] at this;exact this
 have gg:ae (SK w key aq (((w.alloc (.cells (key.map bv).toArray 24)).alloc (.cells (aq.map bv).toArray 158)).alloc (.cells Z.toArray 5))):=
  uo.o.later ((bZ _ _).alloc (by simp) _)
 clear uo
 go_enter func145,ntmps145
 go_wp2
 clear vD;generalize((w.alloc (.cells (key.map bv).toArray 24)).alloc (.cells (aq.map bv).toArray 158)).alloc (.cells Z.toArray 5)=W1 at yO gg⊢
 go_loopw [1,9] (λc v wr=>∃(k n:Nat) (a':bW) (c':Nat),n=min (64*k) len∧64*k≤len+63∧c= .int .u32 ((xB+BitVec.ofNat 32 k).toNat:Int)∧v= .slice a' n c'∧ae (wr.ownsRow (w.heap.size+1+1) 5 1 (.slice a' n c') n ((vW key xB aq (l.take n)).map bv))∧ae (SK w key aq wr)) (λ_ v _=>match v with| .slice _ n _=>len-n|_=>0)
 case atStart=>exact⟨0,0,_,_,by omega,by omega,by rw[BitVec.add_zero],rfl,by rw[List.take_zero];exact yO,gg⟩
 case round=>
  clear yO gg;obtain⟨k,n,a',c',hnE,agM,rfl,rfl,hO,hS⟩:=hrel
  by_cases dN:n<len
  ·have en:64*k=n:=by omega
   have i1:(n:Int)<(len:Int):=by omega
   obtain⟨q,hq⟩:∃q,q=min (n+64) len:=⟨_,rfl⟩;have Af:n<q:=by omega
   have Ag:q≤len:=by omega
   have hq3:q-n≤64:=by omega
   have hqm:min (len-n) 64=q-n:=by omega
   obtain⟨C,hC⟩:=aW (xB+BitVec.ofNat 32 k);rw[hC];obtain⟨B,O8⟩:=aW (Fb key C aq);have MV:B.length=64:=by rw[←O8];exact qg key C aq
   have HST:ae (vW key xB aq (l.take q)=vW key xB aq (l.take n)++kU (l.drop n) B):=by
    have e:=Jt key xB aq l k (by omega);rw[en,hl,←hq,show min 64 (len-n)=q-n by omega,hC,OG key C aq ((l.drop n).take (q-n)) (by simp;omega),O8] at e;show _=_;rw[e]
    congr 1
    unfold kU;apply List.ext_getElem
    ·simp only[List.length_zipWith,List.length_take,List.length_drop,hl,MV];omega
    ·intro i h1 h2;simp
   have HQ:ae (q=min (64*(k+1)) len):=by show _=_;omega
   have HCt:ae (((C.toNat:Int)+1) % 4294967296=((xB+BitVec.ofNat 32 (k+1)).toNat:Int)):=by rw[←hC];exact TQ xB k
   have HBe:ae (Fb key C aq=B):=O8;obtain⟨ba,fz,rfl⟩:∃ba fz,a=some ⟨ba,fz,none⟩:=by
    rcases HB.o.2 with h0|⟨b',kf,e,_⟩
    ·omega
    ·exact⟨b',kf,e⟩
   have JD:=HB.o.lt (by omega);have uj:(n:Int)≤(cap:Int):=by omega
   have hnl:(n:Int)≤(len:Int):=by omega
   have HKQ:ae (64*(k+1)≤len+63):=by show _≤_;omega
   clear hq O8 hC hnE agM
   go_wp2_with (first|refine wpList_load_row rfl 24 _ rfl w.heap.size rfl 24 _ (0,0) _ hS.out.k underlying24 rfl IK.out ?_|refine wpList_load_row rfl 158 _ rfl (w.heap.size+1) rfl 158 _ (0,0) _ hS.out.n underlying158 rfl IN.out ?_)
   refine(F5 key aq C _ hk hn).mono ?_;rintro e w1 ⟨rfl,ck⟩;rw[HBe.o];have xA:=vk w1 B MV;obtain⟨W1',Yd⟩:∃W,w1.alloc (.cells (B.map bv).toArray 142)=W:=⟨_,rfl⟩;have MX:Below wr.heap.size wr W1':=by rw[←Yd];exact ck.alloc ck.size _
   have Bl:ae (W1'.heap[w1.heap.size]?=some (.cells (B.map bv).toArray 142 (0,0))):=by rw[←Yd];exact eC w1 _
   rw[Yd] at xA;have gg:ae (SK w key aq W1'):=hS.out.later (MX.mono hS.out.size);have f8:ae (W1'.ownsRow (w.heap.size+1+1) 5 1 (.slice a' n c') n ((vW key xB aq (l.take n)).map bv)):=hO.out.kept (cG MX) (by
    rcases h:Value.ownBlock (.slice a' n c') with _|j
    ·exact .inl rfl
    ·exact .inr (by simp))
   clear Yd ck MX hS hO
   go_wp2
   clear xA;generalize w1.heap.size=xb at Bl⊢
   obtain⟨W,hW⟩:=aW (W1'.drew);have cL:Below W1'.heap.size W1' W:=by rw[←hW];exact gl
   have pP:ae (SK w key aq W):=gg.o.later (cL.mono gg.o.size);have Sk:ae (W.ownsRow (w.heap.size+1+1) 5 1 (.slice a' n c') n ((vW key xB aq (l.take n)).map bv)):=f8.o.kept (cG cL) (by
    rcases h:Value.ownBlock (.slice a' n c') with _|j
    ·exact .inl rfl
    ·exact .inr (by simp))
   have LS:ae (bj W (some ⟨xb,0,none⟩) 64 B):=xf 64 MV (by rw[cL.block _ (gD.1 Bl.o).1];exact Bl.o);have gx:ae (bj W (some ⟨ba,fz+n,none⟩) (len-n) (l.drop n)):=by
    have:=(HB.o.below JD pP.o.aY).sub (n:=n) (q:=len) (by omega) (di _)
    rwa [su (by simp;omega)] at this
   have MY:ae (W1'.drew=W):=hW;clear hW cL gg f8 Bl;refine ah (G:=Rest (.slice a' n c')) (by kernel_rfl) (Rest.refl _) (Rest.trans _) (by kernel_rfl) [(0,true),(1,true),(2,true),(3,true),(4,true),(5,true),(6,false),(7,false),(8,true)] rfl (by kernel_rfl) ?_;intro KK cA;rw[MY.out];have hcn:¬cap=n:=by omega
   iterate 6 (refine aa rfl (by rfl) (v:=?_) ?_ ?_;rotate_left;(intro w' hw';clear hw';go_simp;with_reducible rfl);go_simp)
   refine aU (f:=155) (args:=#[.slice (some ⟨ba,fz+n,none⟩) (len-n) (cap-n),.slice (some ⟨xb,0,none⟩) 64 64]) rfl (by rfl) (by go_simp) ?_;refine(Xi (some ⟨ba,fz+n,none⟩) (some ⟨xb,0,none⟩) (len-n) (cap-n) 64 64 (l.drop n) B _ gx.o LS.o (by omega) (by omega)).mono ?_;rintro e w2 ⟨g2,rfl,kj,cM,rN⟩;rw[hqm] at rN⊢;refine⟨_,rfl,Rest.below _ cM,?_⟩;have rq:=pP.o.later (cM.mono pP.o.size);have TA:=Sk.o.kept (cG cM) (by
    rcases h:Value.ownBlock (.slice a' n c') with _|j
    ·exact .inl rfl
    ·exact .inr (by simp))
   obtain⟨v3,w3,iu,dt,uu⟩:=cI w2 (w.heap.size+1+1) _ n _ TA ⟨g2,0,none⟩ (q-n) (q-n) _ rN rq.size (by omega);rw[←HST.o,show n+(q-n)=q by omega] at dt;obtain⟨a3,c3,rfl,_,_,_⟩:=Xr dt;have rO:ae (w3.ownsRow (w.heap.size+1+1) 5 1 (.slice a3 q c3) q ((vW key xB aq (l.take q)).map bv)):=dt;have vP:ae (SK w key aq w3):=rq.later ((bZ _ _).grown uu rq.size (λj hj=>(TA.lt j hj).1));have py:ae ((Builtin.append_ #[22,22] 22 #[.slice a' n c',.slice (some ⟨g2,0,none⟩) (q-n) (q-n)]).run prog w2= .ok (.slice a3 q c3) w3):=iu;have yd:ae (Rest (.slice a' n c') w2 w3):=uu;clear iu dt uu TA rN cM rq pP Sk LS gx;go_simp
   refine ki (s:=.tmp 23) (x:=.tmp 29) (t:=22) rfl (by rfl) rfl rfl rfl py.o yd.o ?_;go_simp
   iterate 1 (refine aa rfl (by rfl) (v:=?_) ?_ ?_;rotate_left;(intro w' hw';clear hw';go_simp;with_reducible rfl);go_simp)
   refine az cA ?_
   go_wp2
   rw[HCt.o];exact⟨⟨k+1,q,a3,c3,HQ.o,HKQ.o,rfl,rfl,rO,vP⟩,by simp;omega⟩
  ·have en:n=len:=by omega
   have i1:¬(n:Int)<(len:Int):=by omega
   have HF:ae (l.take n=l):=su (by omega);rw[HF.o] at hO;clear hnE agM
   go_wp2
   go_ret
   exact⟨_,rfl,hS.out.aY,by rw[←en];exact bQ hO.out (by omega)⟩
end Go.Proofs.YtkdpblbhcfhagaaGreatDoor
