import Derived.Test.YtkdpblbhcfhagaaGreatDoorQac
namespace Go.Proofs.YtkdpblbhcfhagaaGreatDoor
open Go.Proofs.Tryz
open _root_.Nat renaming le_refl → di, le_trans → kx, lt_of_lt_of_le → tV
open Go.RowKit.Below renaming refl → bZ, heap_alloc → jE
open Go.World renaming size_alloc → fx
open _root_.Array renaming getElem?_eq_some_iff → gD
open Go renaming undef → ag, World → aw, heap_alloc_new → eC
open _root_.List renaming replicate → cz, not_mem_nil → nj, mem_cons → mg, take_of_length_le → su
open Go.Exit renaming inBlock → nu
set_option maxHeartbeats 64000000
set_option linter.unusedVariables false
set_option maxRecDepth 100000
open Go.RowKit
def iv (x:Nat):Value:=.int .i64 (x:Int)
def cN (w:aw)(a:bW)(len:Nat)(l:List Nat):Prop:=
 l.length=len∧(len=0∨∃b off,a=some ⟨b,off,none⟩∧∀i,i<len→w.cell? ⟨b,off+i,none⟩=some (.int .i64 (cf l i:Int)))
theorem cN.later {w w':aw}{a:bW}{len:Nat}{l:List Nat}(h:cN w a len l)(hb:Below w.heap.size w w'):cN w' a len l:=by
 refine⟨h.1,?_⟩
 rcases h.2 with h0|⟨b,off,e,hc⟩
 ·exact .inl h0
 ·refine .inr ⟨b,off,e,λi hi=>?_⟩;have:=hc i hi;rw[hb.cell (p:=⟨b,off+i,none⟩) (World.block_lt_of_cell? w _ this)];exact this
theorem cN.cut {w:aw}{a:bW}{len q:Nat}{l:List Nat}(h:cN w a len l)(hq:q≤len):cN w a q (l.take q):=by
 have hl:=h.1;refine⟨by simp;omega,?_⟩
 rcases h.2 with h0|⟨b,off,e,hc⟩
 ·exact .inl (by omega)
 ·refine .inr ⟨b,off,e,λi hi=>?_⟩;rw[hc i (by omega)];simp[cf,hi]
theorem cN.at_ {w:aw}{a:bW}{len:Nat}{l:List Nat}(h:cN w a len l)(k:Nat)(hk:k<len):∃b off,a=some ⟨b,off,none⟩∧w.cell? ⟨b,off+k,none⟩=some (.int .i64 (cf l k:Int)):=by
 rcases h.2 with h0|⟨b,off,e,hc⟩
 ·omega
 ·exact⟨b,off,e,hc k hk⟩
theorem MN (l:List Nat):∀u∈l.map iv,u.oneCell'=true:=by intro u hu;simp only[List.mem_map] at hu;obtain⟨c,_,rfl⟩:=hu;rfl
theorem cN.gS {w:aw}{e:TypeId}{a:bW}{n cap:Nat}{l:List Nat}(h:dJ w e a n cap (l.map iv)):cN w a n l:=by
 have hl:l.length=n:=by have:=h.1;simpa using this
 refine⟨hl,?_⟩
 by_cases h0:n=0
 ·exact .inl h0
 ·obtain⟨g,off,rfl,_,_⟩:=h.cell 0 (by omega);refine .inr ⟨g,off,rfl,λi hi=>?_⟩;obtain⟨g',kf,e,hc,_⟩:=h.cell i hi;cases e
  rw[hc,List.getElem?_map,jk l i (by omega)];simp[iv,show i<l.length by omega]
theorem Tryz.infoI64:(prog.info? 3).map (λi=>(i.zero,i.size,i.bytes))=some (some (.int .i64 0),1,8):=by kernel_rfl
theorem oS (a:bW)(len cap:Nat)(l:List Nat)(w:aw)(hI:cN w a len l)(hd:∀x∈l,x<256)(ig:len≤cap)(FW:len≤1000000):
  Calls prog 131 #[.slice a len cap] w λe w'=>∃n,e= .returned (.slice a n cap)∧w'=w∧n≤len∧l.take n=fR (bS l):=by
 have hl:=hI.1;have HI:ae (cN w a len l):=hI;have HD:ae (∀x∈l,x<256):=hd;clear hI hd
 go_enter func131,ntmps131
 go_wp2
 go_loop [0] (λv=>∃n:Nat,n≤len∧v= .slice a n cap∧ae (bS (l.take n)=bS l)) (λv=>match v with| .slice _ n _=>n|_=>0)
 case atStart=>exact⟨len,di _,rfl,by rw[su (by omega)];exact rfl⟩
 case round=>
  obtain⟨n,hn,rfl,hV⟩:=hrel
  by_cases h0:n=0
  ·subst h0;have HR:ae (l.take 0=fR (bS l)):=by have:=hV.out;rw[List.take_zero] at this⊢;rw[←this];exact jw.symm
   go_wp2
   go_ret
   exact⟨0,rfl,rfl,by omega,HR.o⟩
  ·obtain⟨m,rfl⟩:∃m,n=m+1:=⟨n-1,by omega⟩;obtain⟨b,off,rfl,hc⟩:=HI.o.at_ m (by omega);have XR:(0:Int)<((m+1:Nat):Int):=by omega
   have arP:((m+1:Nat):Int)-1=(m:Int):=by omega
   by_cases hz:cf l m=0
   ·have hzi:(cf l m:Int)=0:=by omega
    rw[hzi] at hc;have HV:ae (bS (l.take m)=bS l):=by have:=hV.out;rw[PZ l m (by omega) hz] at this;exact this
    clear hV
    go_wp2
    exact⟨⟨m,by omega,rfl,HV⟩,by simp⟩
   ·have hzi:¬(cf l m:Int)=0:=by omega
    have HR:ae (l.take (m+1)=fR (bS l)):=by
     show _=_;rw[←hV.out]
     symm
     refine Ju _ (λx hx=>HD.o x (List.mem_of_mem_take hx)) (λx hx=>?_);rw[An l m (by omega)] at hx;simp at hx;omega
    clear hV
    go_wp2
    go_ret
    exact⟨m+1,rfl,rfl,by omega,HR.o⟩
theorem cN.cells {w:aw}{x:Addr}{m:Nat}{ys:List Nat}(h:cN w (some x) m ys):∀j v,(ys.map iv)[j]?=some v→w.cell? (x.add j)=some v:=by
 intro j v hj;have hl:=h.1;have PW:j<ys.length:=by
  rcases Nat.lt_or_ge j ys.length with hh|hh
  ·exact hh
  ·rw[List.getElem?_eq_none (by simpa using hh)] at hj;cases hj
 rcases h.2 with h0|⟨b,off,e,hc⟩
 ·omega
 ·cases e
  rw[addr_add,hc j (by omega),jk ys j PW];rw[List.getElem?_map,List.getElem?_eq_getElem PW] at hj
  simpa[iv] using hj
theorem Ke (w:aw)(base:Nat)(v:Value)(n:Nat)(xs:List Nat)(ff:w.ownsRow base 3 1 v n (xs.map iv))(x:Addr)(m c:Nat)(ys:List Nat)(hs:cN w (some x) m ys)(hb:base≤w.heap.size)(xH:n+m≤1000000):
  ∃v' w',(Builtin.append_ #[118,118] 118 #[v,.slice (some x) m c]).run prog w= .ok v' w'∧w'.ownsRow base 3 1 v' (n+m) ((xs++ys).map iv)∧w.grownBy w' v.ownBlock:=by
 obtain⟨i0,hi,uf,pH,uZ⟩:=info_parts Tryz.infoI64;have hl:=hs.1;obtain⟨v',w',hr,ho,hg,_⟩:=run_append_own (P:=prog) w base 118 118 3 i0 (.int .i64 0) 1 8 underlying118 hi uf pH uZ rfl (by decide) v n _ ff x m c (ys.map iv) (by rw[List.length_map];omega) hs.cells (MN ys) (by unfold maxLen;omega) (by omega) hb;exact⟨v',w',hr,by rw[List.map_append];exact ho,hg⟩
theorem jt (w:aw)(base:Nat)(v:Value)(n:Nat)(xs:List Nat)(ff:w.ownsRow base 3 1 v n (xs.map iv))(x:Nat)(hb:base≤w.heap.size)(xH:n≤100000):
  ∃v' w',(Builtin.append_ #[118,118] 118 #[v,.slice (some ⟨w.heap.size,0,none⟩) 1 1]).run prog (w.alloc (.cells #[.int .i64 (x:Int)] 3))= .ok v' w'∧w'.ownsRow base 3 1 v' (n+1) ((xs++[x]).map iv)∧w.grownBy w' v.ownBlock:=by
 have hs:cN (w.alloc (.cells #[.int .i64 (x:Int)] 3)) (some ⟨w.heap.size,0,none⟩) 1 [x]:=by
  refine⟨rfl,.inr ⟨w.heap.size,0,rfl,λi hi=>?_⟩⟩;obtain rfl:i=0:=by omega
  rw[cell_of_row _ w.heap.size (0+0) _ _ (0,0) (eC w _)];simp[cf]
 obtain⟨v',w',hr,ho,hg⟩:=Ke (w.alloc (.cells #[.int .i64 (x:Int)] 3)) base v n xs (ff.alloc _) ⟨w.heap.size,0,none⟩ 1 1 [x] hs (by simp;omega) (by omega);refine⟨v',w',hr,ho,hg.os,hg.tape,hg.output,by have:=hg.size;simp at this;omega,λk hk eL=>?_⟩;rw[hg.block k (by simp;omega) eL];exact jE w _ k hk
theorem C9 {w:aw}{base:Nat}{v:Value}{n:Nat}{l:List Nat}(h:w.ownsRow base 3 1 v n (l.map iv)):
  ∃a cap,v= .slice a n cap∧cN w a n l∧n≤cap∧cap≤maxLen:=by
 have hl:=h.1;rw[List.length_map,Nat.mul_one] at hl
 rcases h.2 with⟨e,h0⟩|⟨g,cap,cur,rfl,hb,hg,uj,m7,gw,FP⟩
 ·refine⟨none,0,?_,⟨hl,.inl h0⟩,by omega,by unfold maxLen;omega⟩;rw[e,h0]
 ·obtain⟨a',cK,e,hs,_⟩:=dJ.Ms h;cases e
  exact⟨_,cap,rfl,cN.gS hs,uj,m7⟩
structure Qs (l:List Nat)(k left:Nat)(o:List Nat):Prop where
 lt:∀x∈o,x<256
 len:o.length=k
 val:bS o+256^k*left=bS (l.take k)
 small:left*256^(k-l.length)≤2^50
theorem Qs.step {l:List Nat}{k left:Nat}{o:List Nat}(h:Qs l k left o)(hk:k<l.length)(hb:∀x∈l,x≤2^50):Qs l (k+1) ((left+cf l k)/256) (o++[(left+cf l k) % 256]):=by
 have hx:=hb _ (zd l k hk);have hs:=h.small;rw[show k-l.length=0 by omega,Nat.pow_zero,Nat.mul_one] at hs;refine⟨?_,by simp[h.len],?_,?_⟩
 ·intro x hx
  rcases List.mem_append.1 hx with hx|hx
  ·exact h.lt x hx
  ·simp at hx;omega
 ·rw[sX,h.len,iN l k hk,←h.val,Nat.pow_succ];have e:left+cf l k=(left+cf l k) % 256+256*((left+cf l k)/256):=by omega
  generalize(left+cf l k) % 256=r at e⊢
  generalize(left+cf l k)/256=q at e⊢
  have:256^k*(left+cf l k)=256^k*(r+256*q):=by rw[e]
  rw[Nat.mul_add,Nat.mul_add,←Nat.mul_assoc] at this;omega
 ·rw[show k+1-l.length=0 by omega,Nat.pow_zero,Nat.mul_one];omega
theorem Qs.shift {l:List Nat}{k left:Nat}{o:List Nat}(h:Qs l k left o)(hk:l.length≤k):Qs l (k+1) (left/256) (o++[left % 256]):=by
 refine⟨?_,by simp[h.len],?_,?_⟩
 ·intro x hx
  rcases List.mem_append.1 hx with hx|hx
  ·exact h.lt x hx
  ·simp at hx;omega
 ·have hv:=h.val;rw[su hk] at hv;rw[sX,h.len,su (by omega),←hv,Nat.pow_succ];have e:left=left % 256+256*(left/256):=by omega
  have:256^k*left=256^k*(left % 256+256*(left/256)):=by rw[←e]
  rw[Nat.mul_add,←Nat.mul_assoc] at this;omega
 ·have hs:=h.small;rw[show k+1-l.length=(k-l.length)+1 by omega,Nat.pow_succ];have h1:left/256*256≤left:=Nat.div_mul_le_self left 256;have h2:left/256*(256^(k-l.length)*256)=(left/256*256)*256^(k-l.length):=by rw[Nat.mul_comm (256^_) 256,←Nat.mul_assoc]
  rw[h2];exact kx (Nat.mul_le_mul_right _ h1) hs
theorem Qs.ala {l:List Nat}{k left:Nat}{o:List Nat}(h:Qs l k left o)(h0:0<left):k≤l.length+6:=by
 have hs:=h.small
 rcases Nat.lt_or_ge (l.length+6) k with hh|hh
 ·have h1:256^7≤256^(k-l.length):=Nat.pow_le_pow_right (by decide) (by omega);have h2:1*256^(k-l.length)≤left*256^(k-l.length):=Nat.mul_le_mul_right _ h0;have h3:(2:Nat)^50<256^7:=by decide
  omega
 ·exact hh
theorem Qs.XS {l:List Nat}{k left:Nat}{o:List Nat}(h:Qs l k left o):left≤2^50:=
 kx (Nat.le_mul_of_pos_right left (Nat.pow_pos (by decide))) h.small
theorem uw (a:bW)(len cap:Nat)(l:List Nat)(w:aw)(hI:cN w a len l)(hd:∀x∈l,x≤2^50)(ig:len≤cap)(FW:len≤50000):
  Calls prog 135 #[.slice a len cap] w λe w'=>∃a' n cK,e= .returned (.slice a' n cK)∧Below w.heap.size w w'∧cN w' a' n (fR (bS l))∧n≤cK:=by
 have hl:=hI.1;have HI:ae (cN w a len l):=hI;have HD:ae (∀x∈l,x≤2^50):=hd;clear hI hd
 go_enter func135,ntmps135
 go_wp2
 go_loopw [3,4,5] (λv L i wr=>∃(k left:Nat) (o:List Nat),i= .int .i64 k∧L= .int .i64 left∧ae (k≤len+7)∧ae (Qs l k left o)∧ae (wr.ownsRow w.heap.size 3 1 v k (o.map iv))∧ae (Below w.heap.size w wr)) (λ_ L i _=>(len-(intOf i).toNat)*2000000000000000+(intOf L).toNat)
 case atStart=>
  refine⟨0,0,[],rfl,rfl,Nat.zero_le _,⟨by simp,rfl,by simp[bS],by simp⟩,World.ownsRow_made w #[] 0 (di _) (Nat.zero_le _) rfl,(bZ _ _).alloc (di _) _⟩
 case round=>
  obtain⟨k,left,o,rfl,rfl,hk7,hC,hO,hW⟩:=hrel;have hL:=hC.out.XS;have Z8:left≤1125899906842624:=hL;clear hL;have arR:=hk7.out
  by_cases dN:k<len
  ·obtain⟨b,off,rfl,kt⟩:=HI.o.at_ k dN;have hc:wr.cell? ⟨b,off+k,none⟩=some (.int .i64 (cf l k:Int)):=by rw[hW.out.cell (p:=⟨b,off+k,none⟩) (World.block_lt_of_cell? w _ kt)];exact kt
   have hx:cf l k≤1125899906842624:=HD.o _ (zd l k (by omega));have sM:(k:Int)<(len:Int):=by omega
   obtain⟨s,hs⟩:=aW (left+cf l k);have hsi:(left:Int)+(cf l k:Int)=(s:Int):=by omega
   have XT:=hC.out.step (by omega) HD.o;rw[hs] at XT;have hm:(s:Int).tmod 256=((s % 256:Nat):Int):=by rw[Int.tmod_eq_emod_of_nonneg (by omega)];omega
   have hq:(s:Int).tdiv 256=((s/256:Nat):Int):=by rw[Int.tdiv_eq_ediv_of_nonneg (by omega)];omega
   obtain⟨v2,w2,jS,cZ,kj⟩:=jt wr w.heap.size _ k o hO.out (s % 256) hW.out.size (by omega);have HA:ae (_):=jS;have nW:ae (w2.ownsRow w.heap.size 3 1 v2 (k+1) ((o++[s % 256]).map iv)):=cZ;have fw:ae (Below w.heap.size w w2):=hW.out.grown kj hW.out.size (λj hj=>(hO.out.lt j hj).1);have vR:ae (Qs l (k+1) (s/256) (o++[s % 256])):=XT;have iJ:s/256≤8796093022208:=by omega
   clear jS cZ kj XT hC hO hW kt
   go_wp2_with (at_builtin;refine ao rfl (.tmp 27) (.tmp 30) 118 rfl _ _ _ _ rfl rfl HA.o ?_)
   exact⟨⟨k+1,s/256,_,by go_num,rfl,(by show _≤_;omega),vR,nW,fw⟩,by simp[intOf];omega⟩
  ·have sM:¬(k:Int)<(len:Int):=by omega
   by_cases h0:left=0
   ·subst h0;have hv:bS o=bS l:=by
     have:=hC.out.val;rw[su (by omega)] at this
     simpa using this
    obtain⟨a2,c2,rfl,tq,jM,nO⟩:=C9 hO.out;have ux:ae (∀x∈o,x<256):=hC.out.lt;have HV:ae (bS o=bS l):=hv;have uy:ae (cN wr a2 k o):=tq;clear hv tq nO hC hO
    go_wp2_with fail
    refine(oS a2 k c2 o wr uy.o ux.o jM (by omega)).mono ?_;rintro e w' ⟨n,rfl,rfl,hn,hT⟩;have Fi:ae (cN w' a2 n (fR (bS l))):=by rw[←HV.o,←hT];exact uy.o.cut hn
    clear hT
    go_wp2
    go_ret
    exact⟨a2,n,c2,rfl,hW.out,Fi.o,by omega⟩
   ·have XR:(0:Int)<(left:Int):=by omega
    have aoC:=hC.out.ala (by omega);have XT:=hC.out.shift (by omega);have hm:(left:Int).tmod 256=((left % 256:Nat):Int):=by rw[Int.tmod_eq_emod_of_nonneg (by omega)];omega
    have hq:(left:Int).tdiv 256=((left/256:Nat):Int):=by rw[Int.tdiv_eq_ediv_of_nonneg (by omega)];omega
    obtain⟨v2,w2,jS,cZ,kj⟩:=jt wr w.heap.size _ k o hO.out (left % 256) hW.out.size (by omega);have HA:ae (_):=jS;have nW:ae (w2.ownsRow w.heap.size 3 1 v2 (k+1) ((o++[left % 256]).map iv)):=cZ;have fw:ae (Below w.heap.size w w2):=hW.out.grown kj hW.out.size (λj hj=>(hO.out.lt j hj).1);have vR:ae (Qs l (k+1) (left/256) (o++[left % 256])):=XT;have iJ:left/256<left:=by omega
    clear jS cZ kj XT hC hO hW
    go_wp2_with (at_builtin;refine ao rfl (.tmp 27) (.tmp 30) 118 rfl _ _ _ _ rfl rfl HA.o ?_)
    exact⟨⟨k+1,left/256,_,by go_num,rfl,(by show _≤_;omega),vR,nW,fw⟩,by simp[intOf];omega⟩
def Fj (w:aw)(g:Nat)(o:List Nat):Prop:=w.heap[g]?=some (.cells (o.map iv).toArray 3 (0,0))
theorem Fj.set {w:aw}{g:Nat}{o:List Nat}(h:Fj w g o)(i x:Nat):Fj (w.setCell ⟨g,i,none⟩ (.int .i64 (x:Int))) g (o.set i x):=by
 have:=heap_setCell_same w g i _ _ (iv x) h;unfold Fj;rw[List.map_set]
 simpa[iv] using this
theorem Fj.at_ {w:aw}{g:Nat}{o:List Nat}(h:Fj w g o)(i:Nat)(hi:i<o.length):w.cell? ⟨g,i,none⟩=some (.int .i64 (cf o i:Int))∧w.frozen? ⟨g,i,none⟩=false:=by refine⟨?_,frozen_of_row w g i _ _ h⟩;rw[cell_of_row w g i _ _ (0,0) h,jk o i hi];simp[hi,iv]
theorem Fj.ints {w:aw}{g:Nat}{o:List Nat}(h:Fj w g o):cN w (some ⟨g,0,none⟩) o.length o:=
 ⟨rfl,.inr ⟨g,0,rfl,λi hi=>by rw[Nat.zero_add];exact(h.at_ i hi).1⟩⟩
theorem Qt (w:aw)(n:Nat)(h:n≤2000000):
  (Instr.makeSlice 118 (.int .i64 (n:Int)) (.int .i64 (n:Int))).run prog w= .ok (.slice (some ⟨w.heap.size,0,none⟩) n n) (w.alloc (.cells ((cz n 0).map iv).toArray 3)):=by
 obtain⟨i0,hi,uf,pH,uZ⟩:=info_parts Tryz.infoI64;have hr:=run_make (P:=prog) w 118 3 i0 (.int .i64 0) underlying118 hi uf .i64 .i64 (n:Int) (n:Int) (by omega) (by omega) (by rw[uZ];omega) (by omega);have e1:((n:Int)).toNat=n:=by omega
 rw[e1,pH,Nat.mul_one] at hr;have e:(madeCells (Value.int .i64 0).cells n).toList=cz n (.int .i64 0):=toList_madeCells_one _ _;have e2:madeCells (Value.int .i64 0).cells n=((cz n 0).map iv).toArray:=by rw[←Array.toList_inj,e];simp[iv]
 rw[e2] at hr;exact hr
structure Ay (w:aw)(g:Nat)(o:List Nat)(wr:aw):Prop where
 row:Fj wr g o
 aY:Below w.heap.size w wr
theorem Ay.set {w wr:aw}{g:Nat}{o:List Nat}(h:Ay w g o wr)(hg:w.heap.size≤g)(i x:Nat):Ay w g (o.set i x) (wr.drew.setCell ⟨g,i,none⟩ (.int .i64 (x:Int))):=
 ⟨Fj.set (w:=wr.drew) h.row i x,h.aY.drew.setCell hg _⟩
theorem FX (w:aw)(n:Nat)(h:n≤2000000):
  ∃W,(Instr.makeSlice 118 (.int .i64 (n:Int)) (.int .i64 (n:Int))).run prog w= .ok (.slice (some ⟨w.heap.size,0,none⟩) n n) W∧Ay w w.heap.size (cz n 0) W:=
 ⟨_,Qt w n h,eC w _,(bZ _ _).alloc (di _) _⟩
structure PlA (l:List Nat)(n k:Nat)(o:List Nat):Prop where
 len:o.length=n
 val:bS o=bS (l.take k)
 small:∀j,cf o j≤255
 zero:∀j,k≤j→cf o j=0
theorem PlA.step {l:List Nat}{n k:Nat}{o:List Nat}(h:PlA l n k o)(hk:k<l.length)(hn:k<n)(hd:∀x∈l,x<256):PlA l n (k+1) (o.set k (cf o k+cf l k)):=by
 have hx:=pn l hd k;have hz:=h.zero k (di _);have hlen:=h.len;refine⟨by rw[List.length_set];exact hlen,?_,λj=>?_,λj hj=>?_⟩
 ·rw[ze o k _ (by omega),h.val,iN l k hk]
 ·by_cases e:k=j
  ·subst e;rw[t9 _ _ _ (by omega)];omega
  ·rw[fN _ _ _ _ e];exact h.small j
 ·rw[fN _ _ _ _ (by omega)];exact h.zero j (by omega)
structure PlB (l m:List Nat)(n k:Nat)(o:List Nat):Prop where
 len:o.length=n
 val:bS o=bS l+bS (m.take k)
 small:∀j,cf o j≤510
 rest:∀j,k≤j→cf o j≤255
theorem PlB.step {l m:List Nat}{n k:Nat}{o:List Nat}(h:PlB l m n k o)(hk:k<m.length)(hn:k<n)(hd:∀x∈m,x<256):PlB l m n (k+1) (o.set k (cf o k+cf m k)):=by
 have hx:=pn m hd k;have hz:=h.rest k (di _);have hlen:=h.len;refine⟨by rw[List.length_set];exact hlen,?_,λj=>?_,λj hj=>?_⟩
 ·rw[ze o k _ (by omega),h.val,iN m k hk,Nat.add_assoc]
 ·by_cases e:k=j
  ·subst e;rw[t9 _ _ _ (by omega)];omega
  ·rw[fN _ _ _ _ e];exact h.small j
 ·rw[fN _ _ _ _ (by omega)];exact h.rest j (by omega)
theorem TB (o:List Nat)(b:Nat)(h:∀j,cf o j≤b):∀x∈o,x≤b:=by
 intro x hx;obtain⟨i,hi,rfl⟩:=List.mem_iff_getElem.1 hx;have:=h i
 rwa [jk o i hi] at this
theorem mO (a:bW)(len cap:Nat)(l:List Nat)(b:bW)(eg fT:Nat)(m:List Nat)(w:aw)(hA:cN w a len l)(hB:cN w b eg m)(MO:∀x∈l,x<256)(Wy:∀x∈m,x<256)(FW:len≤20000)(FN:eg≤20000):
  Calls prog 133 #[.slice a len cap,.slice b eg fT] w λe w'=>∃a' n cK,e= .returned (.slice a' n cK)∧Below w.heap.size w w'∧cN w' a' n (fR (bS l+bS m))∧n≤cK:=by
 have hl:=hA.1;have hm:=hB.1;obtain⟨n,hn⟩:∃n,n=max len eg:=⟨_,rfl⟩;have e1:(if len<eg then(eg:Int) else(len:Int))=(n:Int):=by split<;>omega
 have s9:len≤n:=by omega
 have tL:eg≤n:=by omega
 have CZ:n≤20000:=by omega
 clear hn;obtain⟨W1,vD,Kf⟩:=FX w n (by omega);have EX:ae (Ay w w.heap.size (cz n 0) W1):=Kf;clear Kf;have HA:ae (cN w a len l):=hA;have HB:ae (cN w b eg m):=hB;have yP:ae (∀x∈l,x<256):=MO;have Hg:ae (∀x∈m,x<256):=Wy;clear hA hB MO Wy
 go_enter func133,ntmps133
 go_wp2
 clear vD e1;have HP0:ae (PlA l n 0 (cz n 0)):=⟨by simp,by simp[vZ,bS],λj=>by rw[sj];omega,λj _=>sj n j⟩
 go_loopw [6] (λi wr=>∃(k:Nat) (o:List Nat),k≤len∧i= .int .i64 k∧ae (PlA l n k o)∧ae (Ay w w.heap.size o wr)) (λi _=>len-(intOf i).toNat)
 case atStart=>exact⟨0,_,Nat.zero_le _,rfl,HP0,EX⟩
 case round=>
  clear HP0 EX;obtain⟨k,o,hk,rfl,hP,hM⟩:=hrel
  by_cases dN:k<len
  ·obtain⟨ba,fz,rfl,kt⟩:=HA.o.at_ k dN;obtain⟨W,hW⟩:=aW (wr.drew);have hc:W.cell? ⟨ba,fz+k,none⟩=some (.int .i64 (cf l k:Int)):=by rw[←hW,hM.out.aY.drew.cell (p:=⟨ba,fz+k,none⟩) (World.block_lt_of_cell? w _ kt)];exact kt
   have ho:=hP.out.len;have hd:W.cell? ⟨w.heap.size,k,none⟩=some (.int .i64 (cf o k:Int)):=by rw[←hW];exact(hM.out.row.at_ k (by omega)).1
   have hf:W.frozen? ⟨w.heap.size,k,none⟩=false:=by rw[←hW];exact(hM.out.row.at_ k (by omega)).2
   have hx:=pn l yP.o k;have hy:=hP.out.small k;have hs:IntKind.i64.wrap ((cf o k:Int)+(cf l k:Int))=((cf o k+cf l k:Nat):Int):=by rw[IntKind.wrap_i64];omega
   have HP:ae (PlA l n (k+1) (o.set k (cf o k+cf l k))):=hP.out.step (by omega) (by omega) yP.o;have HM:ae (Ay w w.heap.size (o.set k (cf o k+cf l k)) (W.setCell ⟨w.heap.size,k,none⟩ (.int .i64 ((cf o k+cf l k:Nat):Int)))):=by rw[←hW];exact hM.out.set (di _) k _
   have i1:(k:Int)<(len:Int):=by omega
   have i2:(k:Int)<(n:Int):=by omega
   have HW:ae (wr.drew=W):=hW;generalize cf o k+cf l k=s at HM HP hs
   clear kt hP hM hW
   go_wp2
   refine ah (G:=bX) (by kernel_rfl) bX.refl bX.trans (by kernel_rfl) [(0,true),(1,true),(2,true),(3,true),(4,true),(5,true),(6,true),(7,true),(8,true),(9,true),(10,true),(11,true),(12,false)] rfl (by kernel_rfl) ?_;intro KK cA;rw[HW.o]
   iterate 12 (refine aa rfl (by rfl) (v:=?_) ?_ ?_;rotate_left;(rintro w' rfl;go_simp;with_reducible rfl);go_simp)
   refine bp rfl (by rfl) (w':=W.setCell ⟨w.heap.size,k,none⟩ (.int .i64 (s:Int))) (by go_simp) (by kernel_rfl) ?_;go_simp
   refine az cA ?_
   go_wp2
   exact⟨⟨k+1,_,by omega,by go_num,HP,HM⟩,by simp[intOf];omega⟩
  ·have ek:k=len:=by omega
   have sM:¬(k:Int)<(len:Int):=by omega
   have HQ0:ae (PlB l m n 0 o):=by have hv:=hP.out.val;rw[su (by omega)] at hv;exact⟨hP.out.len,by rw[hv];simp[bS],λj=>by have:=hP.out.small j;omega,λj _=>hP.out.small j⟩
   clear hP
   go_wp2
   go_loopw [7] (λi wr=>∃(k:Nat) (o:List Nat),k≤eg∧i= .int .i64 k∧ae (PlB l m n k o)∧ae (Ay w w.heap.size o wr)) (λi _=>eg-(intOf i).toNat)
   case atStart=>exact⟨0,_,Nat.zero_le _,rfl,HQ0,hM⟩
   case round=>
    clear HQ0 hM;obtain⟨k,o,hk,rfl,hP,hM⟩:=hrel
    by_cases dN:k<eg
    ·obtain⟨ba,fz,rfl,kt⟩:=HB.o.at_ k dN;obtain⟨W,hW⟩:=aW (wr.drew);have hc:W.cell? ⟨ba,fz+k,none⟩=some (.int .i64 (cf m k:Int)):=by rw[←hW,hM.out.aY.drew.cell (p:=⟨ba,fz+k,none⟩) (World.block_lt_of_cell? w _ kt)];exact kt
     have ho:=hP.out.len;have hd:W.cell? ⟨w.heap.size,k,none⟩=some (.int .i64 (cf o k:Int)):=by rw[←hW];exact(hM.out.row.at_ k (by omega)).1
     have hf:W.frozen? ⟨w.heap.size,k,none⟩=false:=by rw[←hW];exact(hM.out.row.at_ k (by omega)).2
     have hx:=pn m Hg.o k;have hy:=hP.out.small k;have hs:IntKind.i64.wrap ((cf o k:Int)+(cf m k:Int))=((cf o k+cf m k:Nat):Int):=by rw[IntKind.wrap_i64];omega
     have HP:ae (PlB l m n (k+1) (o.set k (cf o k+cf m k))):=hP.out.step (by omega) (by omega) Hg.o;have HM:ae (Ay w w.heap.size (o.set k (cf o k+cf m k)) (W.setCell ⟨w.heap.size,k,none⟩ (.int .i64 ((cf o k+cf m k:Nat):Int)))):=by rw[←hW];exact hM.out.set (di _) k _
     have i1:(k:Int)<(eg:Int):=by omega
     have i2:(k:Int)<(n:Int):=by omega
     have HW:ae (wr.drew=W):=hW;generalize cf o k+cf m k=s at HM HP hs
     clear kt hP hM hW
     go_wp2
     refine ah (G:=bX) (by kernel_rfl) bX.refl bX.trans (by kernel_rfl) [(0,true),(1,true),(2,true),(3,true),(4,true),(5,true),(6,true),(7,true),(8,true),(9,true),(10,true),(11,true),(12,false)] rfl (by kernel_rfl) ?_;intro KK cA;rw[HW.o]
     iterate 12 (refine aa rfl (by rfl) (v:=?_) ?_ ?_;rotate_left;(rintro w' rfl;go_simp;with_reducible rfl);go_simp)
     refine bp rfl (by rfl) (w':=W.setCell ⟨w.heap.size,k,none⟩ (.int .i64 (s:Int))) (by go_simp) (by kernel_rfl) ?_;go_simp
     refine az cA ?_
     go_wp2
     exact⟨⟨k+1,_,by omega,by go_num,HP,HM⟩,by simp[intOf];omega⟩
    ·have ek2:k=eg:=by omega
     have alb:¬(k:Int)<(eg:Int):=by omega
     have HV:ae (bS o=bS l+bS m):=by have hv:=hP.out.val;rw[su (by omega)] at hv;exact hv
     have HI:ae (cN wr (some ⟨w.heap.size,0,none⟩) n o):=by
      have:=hM.out.row.ints
      rwa [hP.out.len] at this
     have HS:ae (∀x∈o,x≤2^50):=λx hx=>kx (TB o 510 hP.out.small x hx) (by decide);clear hP
     go_wp2_with fail
     refine(uw _ n n o wr HI.o HS.o (di _) (by omega)).mono ?_;rintro e w2 ⟨a2,n2,c2,rfl,cM,tq,jM⟩;have HR:ae (cN w2 a2 n2 (fR (bS l+bS m))):=by rw[←HV.o];exact tq
     have sO:ae (Below w.heap.size w w2):=hM.out.aY.trans (cM.mono hM.out.aY.size);clear tq cM
     go_wp2
     go_ret
     exact⟨a2,n2,c2,rfl,sO.o,HR.o,jM⟩
structure TC (l m:List Nat)(i k:Nat)(o:List Nat):Prop where
 len:o.length=l.length+m.length
 val:bS o=bS (l.take i)*bS m+256^i*cf l i*bS (m.take k)
 small:∀j,cf o j≤(i*m.length+k)*65025
theorem TC.step {l m:List Nat}{i k:Nat}{o:List Nat}(h:TC l m i k o)(hi:i<l.length)(hk:k<m.length)(hl:∀x∈l,x<256)(hm:∀x∈m,x<256):TC l m i (k+1) (o.set (i+k) (cf o (i+k)+cf l i*cf m k)):=by
 have h1:=pn l hl i;have h2:=pn m hm k;have hp:cf l i*cf m k≤255*255:=Nat.mul_le_mul (by omega) (by omega);have hlen:=h.len;have hs:(i*m.length+(k+1))*65025=(i*m.length+k)*65025+65025:=by rw[←Nat.add_assoc,Nat.add_mul (i*m.length+k) 1]
 refine⟨by rw[List.length_set];exact hlen,?_,λj=>?_⟩
 ·rw[ze o (i+k) _ (by omega),h.val,iN m k hk,Nat.mul_add,Nat.add_assoc]
  congr 2
  rw[Nat.pow_add,Nat.mul_assoc,Nat.mul_assoc,Nat.mul_left_comm (256^k)]
 ·rw[hs];have xH:=h.small;generalize(i*m.length+k)*65025=B at xH
  generalize cf l i*cf m k=t at hp
  by_cases e:i+k=j
  ·subst e;rw[t9 _ _ _ (by omega)];have:=xH (i+k);omega
  ·rw[fN _ _ _ _ e];have:=xH j;omega
theorem TC.next {l m:List Nat}{i:Nat}{o:List Nat}(h:TC l m i m.length o)(hi:i<l.length):TC l m (i+1) 0 o:=by
 refine⟨h.len,?_,λj=>?_⟩
 ·have hv:=h.val;rw[su (di _)] at hv;rw[hv,iN l i hi,Nat.add_mul];simp[bS]
 ·have:=h.small j;rw[Nat.add_zero,Nat.add_mul i 1,Nat.one_mul];exact this
theorem uz (a:bW)(len cap:Nat)(l:List Nat)(b:bW)(eg fT:Nat)(m:List Nat)(w:aw)(hA:cN w a len l)(hB:cN w b eg m)(MO:∀x∈l,x<256)(Wy:∀x∈m,x<256)(FW:len≤10000)(FN:eg≤10000):
  Calls prog 114 #[.slice a len cap,.slice b eg fT] w λe w'=>∃a' n cK,e= .returned (.slice a' n cK)∧Below w.heap.size w w'∧cN w' a' n (fR (bS l*bS m))∧n≤cK:=by
 have hl:=hA.1;have hm:=hB.1;obtain⟨n,hn⟩:=aW (len+eg);have e1:(len:Int)+(eg:Int)=(n:Int):=by omega
 have CZ:n≤20000:=by omega
 obtain⟨W1,vD,Kf⟩:=FX w n (by omega);have EX:ae (Ay w w.heap.size (cz n 0) W1):=Kf;clear Kf;have HA:ae (cN w a len l):=hA;have HB:ae (cN w b eg m):=hB;have yP:ae (∀x∈l,x<256):=MO;have Hg:ae (∀x∈m,x<256):=Wy;clear hA hB MO Wy;have sB:ae (TC l m 0 0 (cz n 0)):=⟨by simp;omega,by simp[vZ,bS],λj=>by rw[sj];omega⟩
 go_enter func114,ntmps114
 go_wp2
 clear vD e1
 go_loopw [6] (λi wr=>∃(k:Nat) (o:List Nat),k≤len∧i= .int .i64 k∧ae (TC l m k 0 o)∧ae (Ay w w.heap.size o wr)) (λi _=>len-(intOf i).toNat)
 case atStart=>exact⟨0,_,Nat.zero_le _,rfl,sB,EX⟩
 case round=>
  clear sB EX;obtain⟨i,o,hi,rfl,hT,hM⟩:=hrel
  by_cases dN:i<len
  ·have hii:(i:Int)<(len:Int):=by omega
   go_wp2
   go_loopw [7] (λv wr=>∃(k:Nat) (o:List Nat),k≤eg∧v= .int .i64 k∧ae (TC l m i k o)∧ae (Ay w w.heap.size o wr)) (λv _=>eg-(intOf v).toNat)
   case atStart=>exact⟨0,_,Nat.zero_le _,rfl,hT,hM⟩
   case round=>
    clear hT hM;obtain⟨k,o,hk,rfl,hT,hM⟩:=hrel
    by_cases hlk:k<eg
    ·obtain⟨ba,fz,rfl,kt⟩:=HA.o.at_ i dN;obtain⟨bb,CR,rfl,gi⟩:=HB.o.at_ k hlk;obtain⟨W,hW⟩:=aW (wr.drew);obtain⟨p,hp⟩:=aW (i+k);have GY:W.cell? ⟨ba,fz+i,none⟩=some (.int .i64 (cf l i:Int)):=by rw[←hW,hM.out.aY.drew.cell (p:=⟨ba,fz+i,none⟩) (World.block_lt_of_cell? w _ kt)];exact kt
     have rf:W.cell? ⟨bb,CR+k,none⟩=some (.int .i64 (cf m k:Int)):=by rw[←hW,hM.out.aY.drew.cell (p:=⟨bb,CR+k,none⟩) (World.block_lt_of_cell? w _ gi)];exact gi
     have ho:=hT.out.len;have hd:W.cell? ⟨w.heap.size,p,none⟩=some (.int .i64 (cf o p:Int)):=by rw[←hW];exact(hM.out.row.at_ p (by omega)).1
     have hf:W.frozen? ⟨w.heap.size,p,none⟩=false:=by rw[←hW];exact(hM.out.row.at_ p (by omega)).2
     have hx:=pn l yP.o i;have hy:=pn m Hg.o k;have hz:=hT.out.small p;have hxy:cf l i*cf m k≤255*255:=Nat.mul_le_mul (by omega) (by omega);have hik:i*m.length≤10000*10000:=Nat.mul_le_mul (by omega) (by omega);have jF:IntKind.i64.wrap ((i:Int)+(k:Int))=(p:Int):=by rw[IntKind.wrap_i64];omega
     have iJ:IntKind.i64.wrap ((cf l i:Int)*(cf m k:Int))=((cf l i*cf m k:Nat):Int):=by rw[IntKind.wrap_i64,←Int.natCast_mul];omega
     have ur:IntKind.i64.wrap ((cf o p:Int)+((cf l i*cf m k:Nat):Int))=((cf o p+cf l i*cf m k:Nat):Int):=by rw[IntKind.wrap_i64];omega
     have HT:ae (TC l m i (k+1) (o.set p (cf o p+cf l i*cf m k))):=by rw[←hp];exact hT.out.step (by omega) (by omega) yP.o Hg.o
     have HM:ae (Ay w w.heap.size (o.set p (cf o p+cf l i*cf m k)) (W.setCell ⟨w.heap.size,p,none⟩ (.int .i64 ((cf o p+cf l i*cf m k:Nat):Int)))):=by rw[←hW];exact hM.out.set (di _) p _
     have i2:(k:Int)<(eg:Int):=by omega
     have i3:(p:Int)<(n:Int):=by omega
     have HW:ae (wr.drew=W):=hW;generalize cf o p+cf l i*cf m k=s at HM HT ur
     generalize cf l i*cf m k=t at iJ ur
     clear kt gi hT hM hW hz hxy hik hp
     go_wp2
     refine ah (G:=bX) (by kernel_rfl) bX.refl bX.trans (by kernel_rfl) [(0,true),(1,true),(2,true),(3,true),(4,true),(5,true),(6,true),(7,true),(8,true),(9,true),(10,true),(11,true),(12,true),(13,true),(14,true),(15,true),(16,true),(17,true),(18,true),(19,true),(20,true),(21,false)] rfl (by kernel_rfl) ?_;intro KK cA;rw[HW.o]
     iterate 21 (refine aa rfl (by rfl) (v:=?_) ?_ ?_;rotate_left;(rintro w' rfl;go_simp;with_reducible rfl);go_simp)
     refine bp rfl (by rfl) (w':=W.setCell ⟨w.heap.size,p,none⟩ (.int .i64 (s:Int))) (by go_simp) (by kernel_rfl) ?_;go_simp
     refine az cA ?_
     go_wp2
     exact⟨⟨k+1,_,by omega,by go_num,HT,HM⟩,by simp[intOf];omega⟩
    ·have ek2:k=eg:=by omega
     have alb:¬(k:Int)<(eg:Int):=by omega
     have vI:ae (TC l m (i+1) 0 o):=by have:=hT.out;rw[ek2,←hm] at this;exact this.next (by omega)
     clear hT
     go_wp2
     exact⟨⟨i+1,o,by omega,by go_num,vI,hM⟩,by simp[intOf];omega⟩
  ·have ek:i=len:=by omega
   have sM:¬(i:Int)<(len:Int):=by omega
   have HV:ae (bS o=bS l*bS m):=by
    have hv:=hT.out.val;rw[su (by omega)] at hv;show _=_
    simpa[bS] using hv
   have HI:ae (cN wr (some ⟨w.heap.size,0,none⟩) n o):=by
    have:=hM.out.row.ints
    rwa [hT.out.len,hl,hm,hn] at this
   have HS:ae (∀x∈o,x≤2^50):=λx hx=>by have h1:=TB o _ hT.out.small x hx;have h2:i*m.length≤10000*10000:=Nat.mul_le_mul (by omega) (by omega);omega
   clear hT
   go_wp2_with fail
   refine(uw _ n n o wr HI.o HS.o (di _) (by omega)).mono ?_;rintro e w2 ⟨a2,n2,c2,rfl,cM,tq,jM⟩;have HR:ae (cN w2 a2 n2 (fR (bS l*bS m))):=by rw[←HV.o];exact tq
   have sO:ae (Below w.heap.size w w2):=hM.out.aY.trans (cM.mono hM.out.aY.size);clear tq cM
   go_wp2
   go_ret
   exact⟨a2,n2,c2,rfl,sO.o,HR.o,jM⟩
structure I9 (w:aw)(a1:bW)(n1 c1:Nat)(lo:List Nat)(a2:bW)(n2 c2:Nat)(hi:List Nat)(wr:aw):Prop where
 s1:dJ wr 3 a1 n1 c1 (lo.map iv)
 s2:dJ wr 3 a2 n2 c2 (hi.map iv)
 ne:∀j,bL a1=some j→bL a2≠some j
 b1:∀j,bL a1=some j→w.heap.size≤j
 b2:∀j,bL a2=some j→w.heap.size≤j
 aY:Below w.heap.size w wr
theorem I9.swap {w wr:aw}{a1 a2:bW}{n1 c1 n2 c2:Nat}{lo hi:List Nat}(h:I9 w a1 n1 c1 lo a2 n2 c2 hi wr):I9 w a2 n2 c2 hi a1 n1 c1 lo wr:=
 ⟨h.s2,h.s1,λj h2 h1=>h.ne j h1 h2,h.b2,h.b1,h.aY⟩
theorem I9.app {w wr:aw}{a1 a2:bW}{n1 c1 n2 c2:Nat}{lo hi:List Nat}(h:I9 w a1 n1 c1 lo a2 n2 c2 hi wr)(x:Nat)(hn:n1≤100000):
  ∃a' c' w2,(Builtin.append_ #[118,118] 118 #[.slice a1 n1 c1,.slice (some ⟨wr.heap.size,0,none⟩) 1 1]).run prog (wr.alloc (.cells #[.int .i64 (x:Int)] 3))= .ok (.slice a' (n1+1) c') w2∧I9 w a' (n1+1) c' (lo++[x]) a2 n2 c2 hi w2:=by
 obtain⟨i0,hi0,uf,pH,uZ⟩:=info_parts Tryz.infoI64;obtain⟨a',c',w2,hr,hs,hg,Mp,jH⟩:=oh (P:=prog) 118 118 3 i0 (.int .i64 0) 8 underlying118 hi0 uf pH uZ rfl wr a1 n1 c1 _ h.s1 (.int .i64 (x:Int)) rfl (by unfold maxLen;omega) (by omega);refine⟨a',c',w2,hr,by rw[List.map_append];exact hs,h.s2.kept λg kj=>hg.block g (h.s2.lt g kj) (λe=>h.ne g e.symm kj),?_,?_,h.b2,h.aY.grown hg h.aY.size h.b1⟩
 ·intro j hj h2
  rcases Mp with e|e
  ·exact h.ne j (by rw[←e];exact hj) h2
  ·have:=e j hj;have:=h.s2.lt j h2;omega
 ·intro j hj
  rcases Mp with e|e
  ·exact h.b1 j (by rw[←e];exact hj)
  ·have:=e j hj;have:=h.aY.size;omega
theorem I9.new (w:aw):I9 w (some ⟨w.heap.size,0,none⟩) 0 0 [] (some ⟨w.heap.size+1,0,none⟩) 0 0 [] ((w.alloc (.cells #[] 3)).alloc (.cells #[] 3)):=by
 refine⟨⟨rfl,.inr ⟨w.heap.size,0,#[],rfl,?_,by simp,di _,λi hi=>by omega⟩⟩,⟨rfl,.inr ⟨w.heap.size+1,0,#[],rfl,?_,by simp,di _,λi hi=>by omega⟩⟩,?_,?_,?_,eF.alloc (by simp) _⟩
 ·rw[jE _ _ _ (by simp)];exact eC w _
 ·have:=eC (w.alloc (.cells #[] 3)) (.cells #[] 3)
  rwa [fx] at this
 ·intro j h1 h2;simp[bL] at h1 h2;omega
 ·intro j h1;simp[bL] at h1;omega
 ·intro j h1;simp[bL] at h1;omega
theorem I9.Z9 {w wr:aw}{a1 a2:bW}{n1 c1 n2 c2:Nat}{lo hi:List Nat}(h:I9 w a1 n1 c1 lo a2 n2 c2 hi wr):n1≤c1:=by rcases h.s1.2 with⟨_,h0,_⟩|⟨_,_,_,_,_,_,h0,_⟩<;>omega
theorem OZ (l:List Nat)(hl:∀x∈l,x<256)(q b k:Nat)(hb:b<8)(hk:q≤k):bS l/2^(8*q+b)/256^(k-q) % 256=cf l k/2^b+cf l (k+1)*2^(8-b) % 256:=by rw[Mh _ _ _ _ hb,show q+(k-q)=k by omega,rF l hl,rF l hl]
theorem XU (b:Nat)(hb:b<8):(2:Nat)^b≤128:=by
 have:=Nat.pow_le_pow_right (n:=2) (by decide) (show b≤7 by omega)
 simpa using this
theorem pN (a:bW)(len cap:Nat)(l:List Nat)(q b:Nat)(w:aw)(hA:cN w a len l)(MO:∀x∈l,x<256)(FW:len≤20000)(hb:b<8)(hq:q≤10000):
  Calls prog 108 #[.slice a len cap,.int .i64 ((8*q+b:Nat):Int)] w λe w'=>∃a1 n1 c1 a2 n2 c2,e= .returned (.tuple #[.slice a1 n1 c1,.slice a2 n2 c2])∧Below w.heap.size w w'∧
   cN w' a1 n1 (fR (bS l % 2^(8*q+b)))∧n1≤c1∧cN w' a2 n2 (fR (bS l/2^(8*q+b)))∧n2≤c2:=by
 have hl:=hA.1;obtain⟨N,hN⟩:=aW (8*q+b);rw[hN];have e1:(N:Int).tdiv 8=(q:Int):=by rw[Int.tdiv_eq_ediv_of_nonneg (by omega)];omega
 have e2:(N:Int).tmod 8=(b:Int):=by rw[Int.tmod_eq_emod_of_nonneg (by omega)];omega
 have sB:=I9.new w;obtain⟨c,hc8⟩:=aW (8-b);have Z':(8:Int)-(b:Int)=(c:Int):=by omega
 have lY:0<c:=by omega
 have hc9:c≤8:=by omega
 obtain⟨P,LQ⟩:=aW (2^b);have hPb:P≤128:=by rw[←LQ];exact XU b hb
 have hP0:0<P:=by rw[←LQ];exact Nat.two_pow_pos b
 have hPi:(2:Int)^b=(P:Int):=by rw[←LQ];simp
 obtain⟨C,O0⟩:=aW (2^c);have hCb:C≤256:=by rw[←O0];exact(Nat.pow_le_pow_right (by decide) hc9:2^c≤2^8)
 have hCi:(2:Int)^c=(C:Int):=by rw[←O0];simp
 have HA:ae (cN w a len l):=hA;have yP:ae (∀x∈l,x<256):=MO;clear hA MO
 go_enter func108,ntmps108
 go_wp2
 clear e1 e2
 go_loopw [6,7,10] (λv1 v2 i wr=>∃(k n1 c1 n2 c2:Nat) (a1 a2:bW),k≤len∧i= .int .i64 k∧v1= .slice a1 n1 c1∧v2= .slice a2 n2 c2∧ae (n1=min k (q+1))∧ae (n2=k-q)∧ae (I9 w a1 n1 c1 (eu (bS l % 2^N) n1) a2 n2 c2 (eu (bS l/2^N) n2) wr)) (λ_ _ i _=>len-(intOf i).toNat)
 case atStart=>exact⟨0,0,0,0,0,_,_,Nat.zero_le _,rfl,rfl,rfl,(by show _=_;omega),(by show _=_;omega),sB⟩
 case round=>
  clear sB;obtain⟨k,n1,c1,n2,c2,a1,a2,hk,rfl,rfl,rfl,h1,h2,hT⟩:=hrel;have LR:=h1.out;have Qu:=h2.out
  by_cases dN:k<len
  ·obtain⟨ba,fz,rfl,kt⟩:=HA.o.at_ k dN;have hc:wr.cell? ⟨ba,fz+k,none⟩=some (.int .i64 (cf l k:Int)):=by rw[hT.out.aY.cell (p:=⟨ba,fz+k,none⟩) (World.block_lt_of_cell? w _ kt)];exact kt
   have hx:=pn l yP.o k;have sM:(k:Int)<(len:Int):=by omega
   by_cases hkq:k<q
   ·have alc:(k:Int)<(q:Int):=by omega
    obtain⟨a3,c3,w3,jS,Qv⟩:=hT.out.app (cf l k) (by omega);have py:ae (_):=jS;have e1:n1=k:=by omega
    have HE:ae (eu (bS l % 2^N) n1++[cf l k]=eu (bS l % 2^N) (n1+1)):=by show _=_;rw[jU,e1,←hN,P0 _ _ _ _ hkq,rF l yP.o]
    rw[HE.o] at Qv;have FZ:ae (I9 w a3 (n1+1) c3 (eu (bS l % 2^N) (n1+1)) a2 n2 c2 (eu (bS l/2^N) n2) w3):=Qv;clear jS Qv hT kt LR Qu HE e1
    go_wp2_with (at_builtin;refine ao rfl (.tmp 27) (.tmp 32) 118 rfl _ _ _ _ rfl rfl py.o ?_)
    exact⟨⟨k+1,n1+1,c3,n2,c2,a3,a2,by omega,by go_num,rfl,rfl,(by have:=h1.out;show _=_;omega),(by have:=h2.out;show _=_;omega),FZ⟩,by simp[intOf];omega⟩
   ·have alc:¬(k:Int)<(q:Int):=by omega
    by_cases ald:k=q
    ·subst ald;have e1:n1=k:=by omega
     obtain⟨r,hr⟩:=aW (cf l k % P);have hrb:r≤255:=by rw[←hr];exact kx (Nat.mod_le _ _) (by omega)
     have fr1:(cf l k:Int) % (P:Int)=(r:Int):=by rw[←hr];simp
     have fr2:(cf l k:Int).tmod (P:Int)=(r:Int):=by rw[Int.tmod_eq_emod_of_nonneg (by omega)];exact fr1
     obtain⟨a3,c3,w3,jS,Qv⟩:=hT.out.app r (by omega);have py:ae (_):=jS;have HE:ae (eu (bS l % 2^N) n1++[r]=eu (bS l % 2^N) (n1+1)):=by show _=_;rw[jU,e1,←hN,P4 _ _ _ hb,rF l yP.o,LQ,hr]
     rw[HE.o] at Qv;have FZ:ae (I9 w a3 (n1+1) c3 (eu (bS l % 2^N) (n1+1)) a2 n2 c2 (eu (bS l/2^N) n2) w3):=Qv;have Az:w3.cell? ⟨ba,fz+k,none⟩=some (.int .i64 (cf l k:Int)):=by rw[FZ.o.aY.cell (p:=⟨ba,fz+k,none⟩) (World.block_lt_of_cell? w _ kt)];exact kt
     clear jS Qv hT kt HE e1 hr;obtain⟨x1,rm⟩:=aW (cf l k/P);have f1:(cf l k:Int)/(P:Int)=(x1:Int):=by rw[←rm];simp
     have alf:x1≤255:=by rw[←rm];exact kx (Nat.div_le_self _ _) (by omega)
     have HZ:ae (bS l/2^N/256^n2 % 256=x1+cf l (k+1)*C % 256):=by show _=_;rw[←hN,Qu,OZ l yP.o _ b k hb (by omega),LQ,rm,hc8,O0]
     by_cases AB:k+1<len
     ·obtain⟨ba2,agr,e,jM⟩:=HA.o.at_ (k+1) AB;cases e
      have tr:w3.cell? ⟨ba,fz+(k+1),none⟩=some (.int .i64 (cf l (k+1):Int)):=by rw[FZ.o.aY.cell (p:=⟨ba,fz+(k+1),none⟩) (World.block_lt_of_cell? w _ jM)];exact jM
      have hy:=pn l yP.o (k+1);obtain⟨y1,Hh⟩:=aW (cf l (k+1)*C);have alg:y1≤65280:=by rw[←Hh];exact Nat.mul_le_mul (show cf l (k+1)≤255 by omega) hCb
      have f2:(cf l (k+1):Int)*(C:Int)=(y1:Int):=by rw[←Hh];simp
      obtain⟨y2,Kg⟩:=aW (y1 % 256);have alh:y2≤255:=by omega
      have f3:(y1:Int).tmod 256=(y2:Int):=by rw[Int.tmod_eq_emod_of_nonneg (by omega)];omega
      have f3':(y1:Int) % 256=(y2:Int):=by omega
      obtain⟨z,hz⟩:=aW (x1+y2);have hzb:z≤510:=by omega
      have f4:(x1:Int)+(y2:Int)=(z:Int):=by omega
      have ab2:(k:Int)+1<(len:Int):=by omega
      obtain⟨a5,c5,w5,wj,TE⟩:=FZ.o.swap.app z (by omega);have OY:ae (_):=wj;have Ck:ae (I9 w a3 (n1+1) c3 (eu (bS l % 2^N) (n1+1)) a5 (n2+1) c5 (eu (bS l/2^N) (n2+1)) w5):=by have:=TE.swap;rw[jU (bS l/2^N) n2,HZ.o,Hh,Kg,hz];exact this
      clear wj TE jM LR Qu HZ rm Hh Kg hz FZ
      go_wp2_with (at_builtin;first|refine ao rfl (.tmp 37) (.tmp 46) 118 rfl _ _ _ _ rfl rfl py.o ?_|refine ao rfl (.tmp 72) (.tmp 74) 118 rfl _ _ _ _ rfl rfl OY.o ?_)
      exact⟨⟨k+1,(n1+1),c3,n2+1,c5,a3,a5,by omega,by go_num,rfl,rfl,(by have:=h1.out;show _=_;omega),(by have:=h2.out;show _=_;omega),Ck⟩,by simp[intOf];omega⟩
     ·have ab2:¬(k:Int)+1<(len:Int):=by omega
      have h0:cf l (k+1)=0:=t8 l (k+1) (by omega);obtain⟨a5,c5,w5,wj,TE⟩:=FZ.o.swap.app x1 (by omega);have OY:ae (_):=wj;have Ck:ae (I9 w a3 (n1+1) c3 (eu (bS l % 2^N) (n1+1)) a5 (n2+1) c5 (eu (bS l/2^N) (n2+1)) w5):=by have:=TE.swap;rw[jU (bS l/2^N) n2,HZ.o,h0,Nat.zero_mul];exact this
      clear wj TE LR Qu HZ rm h0 FZ
      go_wp2_with (at_builtin;first|refine ao rfl (.tmp 37) (.tmp 46) 118 rfl _ _ _ _ rfl rfl py.o ?_|refine ao rfl (.tmp 72) (.tmp 74) 118 rfl _ _ _ _ rfl rfl OY.o ?_)
      exact⟨⟨k+1,(n1+1),c3,n2+1,c5,a3,a5,by omega,by go_num,rfl,rfl,(by have:=h1.out;show _=_;omega),(by have:=h2.out;show _=_;omega),Ck⟩,by simp[intOf];omega⟩
    ·have eL:¬(k:Int)=(q:Int):=by omega
     clear kt;obtain⟨x1,rm⟩:=aW (cf l k/P);have f1:(cf l k:Int)/(P:Int)=(x1:Int):=by rw[←rm];simp
     have alf:x1≤255:=by rw[←rm];exact kx (Nat.div_le_self _ _) (by omega)
     have HZ:ae (bS l/2^N/256^n2 % 256=x1+cf l (k+1)*C % 256):=by show _=_;rw[←hN,Qu,OZ l yP.o _ b k hb (by omega),LQ,rm,hc8,O0]
     by_cases AB:k+1<len
     ·obtain⟨ba2,agr,e,jM⟩:=HA.o.at_ (k+1) AB;cases e
      have tr:wr.cell? ⟨ba,fz+(k+1),none⟩=some (.int .i64 (cf l (k+1):Int)):=by rw[hT.out.aY.cell (p:=⟨ba,fz+(k+1),none⟩) (World.block_lt_of_cell? w _ jM)];exact jM
      have hy:=pn l yP.o (k+1);obtain⟨y1,Hh⟩:=aW (cf l (k+1)*C);have alg:y1≤65280:=by rw[←Hh];exact Nat.mul_le_mul (show cf l (k+1)≤255 by omega) hCb
      have f2:(cf l (k+1):Int)*(C:Int)=(y1:Int):=by rw[←Hh];simp
      obtain⟨y2,Kg⟩:=aW (y1 % 256);have alh:y2≤255:=by omega
      have f3:(y1:Int).tmod 256=(y2:Int):=by rw[Int.tmod_eq_emod_of_nonneg (by omega)];omega
      have f3':(y1:Int) % 256=(y2:Int):=by omega
      obtain⟨z,hz⟩:=aW (x1+y2);have hzb:z≤510:=by omega
      have f4:(x1:Int)+(y2:Int)=(z:Int):=by omega
      have ab2:(k:Int)+1<(len:Int):=by omega
      obtain⟨a5,c5,w5,wj,TE⟩:=hT.out.swap.app z (by omega);have OY:ae (_):=wj;have Ck:ae (I9 w a1 n1 c1 (eu (bS l % 2^N) n1) a5 (n2+1) c5 (eu (bS l/2^N) (n2+1)) w5):=by have:=TE.swap;rw[jU (bS l/2^N) n2,HZ.o,Hh,Kg,hz];exact this
      clear wj TE jM LR Qu HZ rm Hh Kg hz hT
      go_wp2_with (at_builtin;first|refine ao rfl (.tmp 72) (.tmp 74) 118 rfl _ _ _ _ rfl rfl OY.o ?_)
      exact⟨⟨k+1,n1,c1,n2+1,c5,a1,a5,by omega,by go_num,rfl,rfl,(by have:=h1.out;show _=_;omega),(by have:=h2.out;show _=_;omega),Ck⟩,by simp[intOf];omega⟩
     ·have ab2:¬(k:Int)+1<(len:Int):=by omega
      have h0:cf l (k+1)=0:=t8 l (k+1) (by omega);obtain⟨a5,c5,w5,wj,TE⟩:=hT.out.swap.app x1 (by omega);have OY:ae (_):=wj;have Ck:ae (I9 w a1 n1 c1 (eu (bS l % 2^N) n1) a5 (n2+1) c5 (eu (bS l/2^N) (n2+1)) w5):=by have:=TE.swap;rw[jU (bS l/2^N) n2,HZ.o,h0,Nat.zero_mul];exact this
      clear wj TE LR Qu HZ rm h0 hT
      go_wp2_with (at_builtin;first|refine ao rfl (.tmp 72) (.tmp 74) 118 rfl _ _ _ _ rfl rfl OY.o ?_)
      exact⟨⟨k+1,n1,c1,n2+1,c5,a1,a5,by omega,by go_num,rfl,rfl,(by have:=h1.out;show _=_;omega),(by have:=h2.out;show _=_;omega),Ck⟩,by simp[intOf];omega⟩
  ·have sM:¬(k:Int)<(len:Int):=by omega
   have ek:k=len:=by omega
   have XV:bS l<256^len:=by rw[←hl];exact zb l yP.o
   have HLo:ae (bS (eu (bS l % 2^N) n1)=bS l % 2^N):=by
    refine uW _ _ ?_
    by_cases hle:len≤q+1
    ·rw[LR,ek,Nat.min_eq_left hle];exact Nat.lt_of_le_of_lt (Nat.mod_le _ _) XV
    ·rw[LR,ek,Nat.min_eq_right (by omega)];refine tV (Nat.mod_lt _ (Nat.two_pow_pos _)) ?_;rw[sg,←hN];exact Nat.pow_le_pow_right (by decide) (by omega)
   have HHi:ae (bS (eu (bS l/2^N) n2)=bS l/2^N):=by refine uW _ _ ?_;rw[Nat.div_lt_iff_lt_mul (Nat.two_pow_pos _)];refine tV XV ?_;rw[sg,sg,←Nat.pow_add];exact Nat.pow_le_pow_right (by decide) (by omega)
   have I':cN wr a1 n1 (eu (bS l % 2^N) n1):=cN.gS hT.out.s1;have tq:cN wr a2 n2 (eu (bS l/2^N) n2):=cN.gS hT.out.s2;have ali:=hT.out.Z9;have alj:=hT.out.swap.Z9;have O1:ae (cN wr a1 n1 (eu (bS l % 2^N) n1)):=I';have uy:ae (cN wr a2 n2 (eu (bS l/2^N) n2)):=tq;have arZ:n1≤20000:=by omega
   have ar0:n2≤20000:=by omega
   clear LR Qu I' tq XV
   go_wp2_with fail
   refine(oS a1 n1 c1 _ wr O1.o (FK _ _) ali (by omega)).mono ?_;rintro e w5 ⟨m1,rfl,rfl,sC,oF⟩;have uA:ae (cN w5 a1 m1 (fR (bS l % 2^N))):=by rw[HLo.o] at oF;rw[←oF];exact O1.o.cut sC
   clear oF
   go_wp2_with fail
   refine(oS a2 n2 c2 _ w5 uy.o (FK _ _) alj (by omega)).mono ?_;rintro e w6 ⟨m2,rfl,rfl,nO,F0⟩;have AD:ae (cN w6 a2 m2 (fR (bS l/2^N))):=by rw[HHi.o] at F0;rw[←F0];exact uy.o.cut nO
   clear F0
   go_wp2
   go_ret2
   exact⟨a1,m1,c1,a2,m2,c2,rfl,hT.out.aY,uA.o,by omega,AD.o,by omega⟩
def AE (wr:aw):Value→Nat
 | .slice (some x) n _=>bS ((List.range n).map λi=>match wr.cell? ⟨x.block,x.off+i,none⟩ with|some (.int _ z)=>z.toNat|_=>0)
 |_=>0
theorem cN.rd {w:aw}{a:bW}{n c:Nat}{l:List Nat}(h:cN w a n l):AE w (.slice a n c)=bS l:=by
 have hl:=h.1
 rcases h.2 with h0|⟨b,off,rfl,hc⟩
 ·subst h0;obtain rfl:l=[]:=List.eq_nil_of_length_eq_zero hl;cases a<;>simp[AE,bS]
 ·show bS ((List.range n).map λi=>match w.cell? ⟨b,off+i,none⟩ with|some (.int _ z)=>z.toNat|_=>0)=bS l
  congr 1
  apply List.ext_getElem
  ·simp[hl]
  ·intro i h1 h2;have hi:i<n:=by omega
   simp only[List.getElem_map,List.getElem_range,hc i hi,Int.toNat_natCast];exact jk l i h2
theorem zy (w:aw)(x:Nat):cN (w.alloc (.cells #[.int .i64 (x:Int)] 3)) (some ⟨w.heap.size,0,none⟩) 1 [x]:=by
 refine⟨rfl,.inr ⟨w.heap.size,0,rfl,λi hi=>?_⟩⟩;obtain rfl:i=0:=by omega
 rw[cell_of_row _ w.heap.size (0+0) _ _ (0,0) (eC w _)];simp[cf]
theorem TF (x p less:Nat)(h:less≤p):(x % p+x/p*less) % (p-less)=x % (p-less):=by
 have e:x=(x % p+x/p*less)+x/p*(p-less):=by rw[Nat.add_assoc,←Nat.mul_add,show less+(p-less)=p by omega,Nat.mul_comm (x/p) p];have:=Nat.div_add_mod x p;omega
 have e2:x % (p-less)=((x % p+x/p*less)+x/p*(p-less)) % (p-less):=by rw[←e]
 rw[e2,Nat.mul_comm (x/p) (p-less),Nat.add_mul_mod_self_left]
theorem XW (x p less:Nat)(h:less<p)(hx:0<x/p):x % p+x/p*less<x:=by have h1:=Nat.div_add_mod x p;have h2:x/p*less<x/p*p:=Nat.mul_lt_mul_of_pos_left h hx;rw[Nat.mul_comm (x/p) p] at h2;omega
structure Mo (x M len:Nat)(l:List Nat):Prop where
 lt:∀c∈l,c<256
 le:l.length≤len
 val:bS l<256^len
 mod:bS l % M=x % M
theorem C' (a:bW)(len cap:Nat)(l:List Nat)(q b less:Nat)(w:aw)(hA:cN w a len l)(MO:∀x∈l,x<256)(ig:len≤cap)(FW:len≤5000)(hb:b<8)(hq:q≤1000)(Af:2≤q)(ve:0<less)(hs:less<256):
  Calls prog 132 #[.slice a len cap,.int .i64 ((8*q+b:Nat):Int),.int .i64 (less:Int)] w λe w'=>∃a' n cK,e= .returned (.slice a' n cK)∧Below w.heap.size w w'∧cN w' a' n (fR (bS l % (2^(8*q+b)-less)))∧n≤cK:=by
 have hl:=hA.1;obtain⟨p,hp⟩:=aW (2^(8*q+b));have uX:65536≤p:=by rw[←hp];exact(Nat.pow_le_pow_right (by decide) (show 16≤8*q+b by omega):2^16≤2^(8*q+b))
 have hpn:p<256^(q+1):=by rw[←hp,sg];exact Nat.pow_lt_pow_right (by decide) (by omega)
 have WA:ae (p<256^(q+1)):=hpn;have HP:ae (2^(8*q+b)=p):=hp;rw[hp];obtain⟨x,hx⟩:=aW (bS l);rw[hx];obtain⟨M,hM⟩:=aW (p-less);rw[hM];have HM:ae (p-less=M):=hM;have XX:ae (cN w a len l):=hA;have EX:ae (Mo x M len l):=⟨MO,by omega,by rw[←hl];exact zb l MO,by rw[hx]⟩;obtain⟨N,hN⟩:=aW (8*q+b);have HN:ae (8*q+b=N):=hN;rw[hN];have hNb:N≤8007:=by omega
 clear hA MO hp hx hM hN hpn
 go_enter func132,ntmps132
 go_wp2
 go_loopw [0] (λv wr=>∃(n' c':Nat) (a':bW) (l':List Nat),v= .slice a' n' c'∧n'≤c'∧ae (cN wr a' n' l')∧ae (Mo x M len l')∧ae (Below w.heap.size w wr)) (λv wr=>AE wr v)
 case atStart=>exact⟨len,cap,a,l,rfl,ig,XX,EX,bZ _ _⟩
 case round=>
  clear XX EX;obtain⟨n',c',a',l',rfl,alk,hI,hMo,hW⟩:=hrel;have hln:l'.length=n':=hI.out.1;have hnl:n'≤len:=by have:=hMo.out.le;omega
  obtain⟨x',re⟩:=aW (bS l');have HX':ae (bS l'=x'):=re;have Fk:ae (AE wr (.slice a' n' c')=x'):=by rw[←re];exact hI.out.rd
  clear re
  go_wp2_with fail
  have wk:=pN a' n' c' l' q b wr hI.out hMo.out.lt (by omega) hb (by omega);rw[HN.o,HX'.o] at wk;refine wk.mono ?_;clear wk;rintro e w1 ⟨a1,n1,c1,a2,n2,c2,rfl,ck,I',s9,tq,tL⟩;rw[show 2^N=p by rw[←HN.o];exact HP.o] at I' tq;have O1:ae (cN w1 a1 n1 (fR (x' % p))):=I';have uy:ae (cN w1 a2 n2 (fR (x'/p))):=tq;have fU:ae (Below w.heap.size w w1):=hW.out.trans (ck.mono hW.out.size);have HIw:ae (cN w1 a' n' l'):=hI.out.later ck;have vg:(fR (x' % p)).length=n1:=I'.1;have Au:(fR (x'/p)).length=n2:=tq.1;have Sg:x'<256^len:=by rw[←HX'.o];exact hMo.out.val
  have alm:n1≤len:=by rw[←vg];exact dy _ _ (Nat.lt_of_le_of_lt (Nat.mod_le _ _) Sg)
  have aln:n2≤len:=by rw[←Au];exact dy _ _ (Nat.lt_of_le_of_lt (Nat.div_le_self _ _) Sg)
  have HXL:ae (x'<256^len):=Sg;have Ja:ae ((fR (x'/p)).length=n2):=Au;clear ck I' tq vg Au Sg
  by_cases h0:n2=0
  ·have agw:x'<p:=by have h1:=Ja.o;rw[h0,lX] at h1;exact(Nat.div_eq_zero_iff.1 h1).resolve_left (by omega)
   have HXM:ae (x' % M=x % M):=by rw[←HX'.o];exact hMo.out.mod
   have HXP:ae (x'<p):=agw;have ux:ae (∀c∈l',c<256):=hMo.out.lt;subst h0;clear agw hI hMo hW Ja O1 uy alm aln
   go_wp2_with fail
   refine(mO a' n' c' l' (some ⟨w1.heap.size,0,none⟩) 1 1 [less] _ (HIw.o.later eF) (zy w1 less) ux.o (by simp;omega) (by omega) (by omega)).mono ?_;rintro e w2 ⟨a3,n3,c3,rfl,cM,Jb,CZ⟩;rw[HX'.o,show bS [less]=less by simp[bS]] at Jb;have MP:Below w1.heap.size w1 w2:=eF.trans (cM.mono (by simp));have Fi:ae (cN w2 a3 n3 (fR (x'+less))):=Jb;have agx:ae (cN w2 a' n' l'):=HIw.o.later MP;have fw:ae (Below w.heap.size w w2):=fU.o.trans (MP.mono fU.o.size);have agy:n3≤q+2:=by have h1:(fR (x'+less)).length=n3:=Jb.1;rw[←h1];refine dy _ _ ?_;have h2:=HXP.o;have h3:=WA.o;rw[Nat.pow_succ];omega
   clear cM MP Jb HIw fU
   go_wp2_with fail
   have wk:=pN a3 n3 c3 _ q b w2 Fi.o (gJ _) (by omega) hb (by omega);rw[HN.o,dO] at wk;refine wk.mono ?_;clear wk;rintro e w3 ⟨a4,n4,c4,a5,n5,c5,rfl,eZ,hI4,RZ,XY,LN⟩;rw[show 2^N=p by rw[←HN.o];exact HP.o] at hI4 XY;have Qg:(fR ((x'+less)/p)).length=n5:=XY.1;have XZ:ae (cN w3 a' n' l'):=agx.o.later eZ;have pI:ae (Below w.heap.size w w3):=fw.o.trans (eZ.mono fw.o.size);clear eZ hI4 XY agx fw Fi
   by_cases h5:n5=0
   ·have agz:x'<M:=by rw[h5,lX,Nat.div_eq_zero_iff] at Qg;have:=HM.o;omega
    have HR:ae (x % M=x'):=by rw[←HXM.o];exact Nat.mod_eq_of_lt agz
    have h5i:(n5:Int)=0:=by omega
    subst h5;clear agz Qg
    go_wp2_with fail
    refine(oS a' n' c' l' w3 XZ.o ux.o alk (by omega)).mono ?_;rintro e w4 ⟨m,rfl,rfl,hm,hR⟩;have AD:ae (cN w4 a' m (fR (x % M))):=by rw[HR.o,←HX'.o,←hR];exact XZ.o.cut hm
    clear hR
    go_wp2
    go_ret
    exact⟨a',m,c',rfl,pI.o,AD.o,by omega⟩
   ·have aac:p≤x'+less:=by
     rcases Nat.lt_or_ge (x'+less) p with h1|h1
     ·exact absurd ((lX _).2 (Nat.div_eq_of_lt h1)) (by rw[Qg];exact h5)
     ·exact h1
    have HR:ae (x % M=(x'+less) % p):=by
     show _=_;have h1:=HM.o;have h2:=HXP.o;rw[←HXM.o];have e1:(x'+less) % p=x'+less-p:=by rw[Nat.mod_eq_sub_mod aac,Nat.mod_eq_of_lt (by omega)]
     have e2:x' % M=x'-M:=by rw[Nat.mod_eq_sub_mod (by omega),Nat.mod_eq_of_lt (by omega)]
     rw[e1,e2];omega
    have h5i:(0:Int)<(n5:Int):=by omega
    have h5j:¬(n5:Int)=0:=by omega
    clear aac Qg
    go_wp2_with fail
    refine(mO a' n' c' l' (some ⟨w3.heap.size,0,none⟩) 1 1 [less] _ (XZ.o.later eF) (zy w3 less) ux.o (by simp;omega) (by omega) (by omega)).mono ?_;rintro e w4 ⟨a6,n6,c6,rfl,js,O4,Qh⟩;rw[HX'.o,show bS [less]=less by simp[bS]] at O4;have agA:Below w3.heap.size w3 w4:=eF.trans (js.mono (by simp));have HI6:ae (cN w4 a6 n6 (fR (x'+less))):=O4;have Ci:ae (Below w.heap.size w w4):=pI.o.trans (agA.mono pI.o.size);have agB:n6≤q+2:=by have h1:(fR (x'+less)).length=n6:=O4.1;rw[←h1];refine dy _ _ ?_;have h2:=HXP.o;have h3:=WA.o;rw[Nat.pow_succ];omega
    clear js agA O4 XZ pI
    go_wp2_with fail
    have wk:=pN a6 n6 c6 _ q b w4 HI6.o (gJ _) (by omega) hb (by omega);rw[HN.o,dO] at wk;refine wk.mono ?_;clear wk;rintro e w5 ⟨a7,n7,c7,a8,n8,c8,rfl,iE,hI7,J1,hI8,Tp⟩;rw[show 2^N=p by rw[←HN.o];exact HP.o] at hI7;have HI7:ae (cN w5 a7 n7 (fR (x % M))):=by rw[HR.o];exact hI7
    have wh:ae (Below w.heap.size w w5):=Ci.o.trans (iE.mono Ci.o.size);clear iE hI7 hI8 Ci HI6
    go_wp2
    go_ret
    exact⟨a7,n7,c7,rfl,wh.o,HI7.o,J1⟩
  ·have XR:0<x'/p:=by
    rcases Nat.eq_zero_or_pos (x'/p) with h1|h1
    ·exact absurd ((lX _).2 h1) (by rw[Ja.o];exact h0)
    ·exact h1
   have h0i:¬(n2:Int)=0:=by omega
   have HFm:ae ((x' % p+x'/p*less) % M=x % M):=by show _=_;rw[←HM.o,TF x' p less (by omega),←HX'.o,HM.o];exact hMo.out.mod
   have HFl:ae (x' % p+x'/p*less<x'):=XW x' p less (by omega) XR;clear XR hI hMo hW Ja HIw
   go_wp2_with fail
   refine(uz a2 n2 c2 _ (some ⟨w1.heap.size,0,none⟩) 1 1 [less] _ (uy.o.later eF) (zy w1 less) (gJ _) (by simp;omega) (by omega) (by omega)).mono ?_;rintro e w2 ⟨a3,n3,c3,rfl,cM,Jb,CZ⟩;rw[dO,show bS [less]=less by simp[bS]] at Jb;have MP:Below w1.heap.size w1 w2:=eF.trans (cM.mono (by simp));have Fi:ae (cN w2 a3 n3 (fR (x'/p*less))):=Jb;have agC:ae (cN w2 a1 n1 (fR (x' % p))):=O1.o.later MP;have fw:ae (Below w.heap.size w w2):=fU.o.trans (MP.mono fU.o.size);have agy:n3≤len:=by have h1:(fR (x'/p*less)).length=n3:=Jb.1;rw[←h1];refine dy _ _ ?_;have h2:=HFl.o;have h3:=HXL.o;omega
   clear cM MP Jb O1 uy fU
   go_wp2_with fail
   refine(mO a1 n1 c1 _ a3 n3 c3 _ _ agC.o Fi.o (gJ _) (gJ _) (by omega) (by omega)).mono ?_;rintro e w3 ⟨a4,n4,c4,rfl,eZ,hI4,RZ⟩;rw[dO,dO] at hI4;have X4:ae (cN w3 a4 n4 (fR (x' % p+x'/p*less))):=hI4;have pI:ae (Below w.heap.size w w3):=fw.o.trans (eZ.mono fw.o.size);have alq:ae (Mo x M len (fR (x' % p+x'/p*less))):=by have h2:=HFl.o;have h3:=HXL.o;refine⟨gJ _,dy _ _ (by omega),by rw[dO];omega,by rw[dO];exact HFm.o⟩
   clear eZ hI4 Fi agC fw
   go_wp2
   refine⟨⟨n4,c4,a4,_,rfl,RZ,X4,alq,pI⟩,?_⟩;have hm:AE w3 (.slice a4 n4 c4)<AE wr (.slice a' n' c'):=by rw[Fk.o,X4.o.rd,dO];exact HFl.o
   simpa using hm
theorem oG (a:bW)(len cap:Nat)(l:aO)(w:aw)(hA:bj w a len l)(FW:len≤20000):
  Calls prog 109 #[.slice a len cap] w λe w'=>∃a' n cK,e= .returned (.slice a' n cK)∧Below w.heap.size w w'∧cN w' a' n (fR (fc l))∧n≤cK:=by
 have hl:=hA.1;have HA:ae (bj w a len l):=hA;clear hA
 go_enter func109,ntmps109
 go_wp2
 go_loopw [3,4] (λv i wr=>∃k:Nat,k≤len∧i= .int .i64 k∧ae (wr.ownsRow w.heap.size 3 1 v k (((l.take k).map λc=>c.toNat).map iv))∧ae (Below w.heap.size w wr)) (λ_ i _=>len-(intOf i).toNat)
 case atStart=>
  refine⟨0,Nat.zero_le _,rfl,World.ownsRow_made w #[] 0 (di _) (Nat.zero_le _) rfl,(bZ _ _).alloc (di _) _⟩
 case round=>
  obtain⟨k,hk,rfl,hO,hW⟩:=hrel
  by_cases dN:k<len
  ·obtain⟨b,off,rfl,kt⟩:=HA.o.at_ k dN;have hc:wr.cell? ⟨b,off+k,none⟩=some (.int .u8 ((at8 l k).toNat:Int)):=by rw[hW.out.cell (p:=⟨b,off+k,none⟩) (World.block_lt_of_cell? w _ kt)];exact kt
   have hx:=(at8 l k).toNat_lt;have sM:(k:Int)<(len:Int):=by omega
   obtain⟨v2,w2,jS,cZ,kj⟩:=jt wr w.heap.size _ k _ hO.out (at8 l k).toNat hW.out.size (by omega);have gM:ae (_):=jS;have nW:ae (w2.ownsRow w.heap.size 3 1 v2 (k+1) (((l.take (k+1)).map λc=>c.toNat).map iv)):=by rw[tW l k (by omega),List.map_append];exact cZ
   have fw:ae (Below w.heap.size w w2):=hW.out.grown kj hW.out.size (λj hj=>(hO.out.lt j hj).1);clear jS cZ kj hO hW kt
   go_wp2_with (at_builtin;refine ao rfl (.tmp 12) (.tmp 18) 118 rfl _ _ _ _ rfl rfl gM.o ?_)
   exact⟨⟨k+1,by omega,by go_num,nW,fw⟩,by simp[intOf];omega⟩
  ·have sM:¬(k:Int)<(len:Int):=by omega
   obtain⟨a2,c2,rfl,tq,jM,nO⟩:=C9 hO.out;rw[su (by omega)] at tq;have uy:ae (cN wr a2 k (l.map λc=>c.toNat)):=tq;have ux:ae (∀x∈l.map (λc:UInt8=>c.toNat),x<256):=by intro x hx;simp only[List.mem_map] at hx;obtain⟨c,_,rfl⟩:=hx;exact c.toNat_lt
   clear tq nO hO
   go_wp2_with fail
   refine(oS a2 k c2 _ wr uy.o ux.o jM (by omega)).mono ?_;rintro e w' ⟨n,rfl,rfl,hn,hT⟩;rw[CL] at hT;have Fi:ae (cN w' a2 n (fR (fc l))):=by rw[←hT];exact uy.o.cut hn
   clear hT
   go_wp2
   go_ret
   exact⟨a2,n,c2,rfl,hW.out,Fi.o,by omega⟩
def zz (x size k:Nat):aO:=zA k x++cz (size-k) 0
theorem Kh (x size k:Nat)(h:k≤size):(zz x size k).length=size:=by simp[zz,aaa];omega
theorem Qw (x size:Nat):zz x size 0=cz size 0:=by simp[zz,zA]
theorem TH (x size k:Nat)(h:k<size):(zz x size k).set k (UInt8.ofNat (x/256^k % 256))=zz x size (k+1):=by
 unfold zz;rw[List.set_append_right _ _ (by rw[aaa];exact di _),aaa,Nat.sub_self,SF,List.append_assoc]
 congr 1
 rw[show size-k=(size-(k+1))+1 by omega,List.replicate_succ];rfl
theorem TI (x size k:Nat)(h:k≤size)(hx:k=size∨x<256^k):zz x size k=zA size x:=by
 have tN:=Kh x size k h;unfold zz at tN⊢;apply List.ext_getElem
 ·rw[tN,aaa]
 ·intro i h1 h2;rw[aaa] at h2;rw[tU size x i h2]
  rcases Nat.lt_or_ge i k with hi|hi
  ·rw[List.getElem_append_left (by rw[aaa];exact hi),tU k x i hi]
  ·rw[List.getElem_append_right (by rw[aaa];exact hi),List.getElem_replicate]
   rcases hx with hx|hx
   ·omega
   ·rw[Nat.div_eq_of_lt (tV hx (Nat.pow_le_pow_right (by decide) hi))];rfl
theorem zC (a:bW)(len cap size x:Nat)(w:aw)(hA:cN w a len (fR x))(jH:size≤1000)(FW:len≤20000):
  Calls prog 113 #[.slice a len cap,.int .i64 (size:Int)] w λe w'=>∃g,e= .returned (.slice (some ⟨g,0,none⟩) size size)∧w.heap.size≤g∧Below w.heap.size w w'∧bj w' (some ⟨g,0,none⟩) size (zA size x):=by
 have hl:=hA.1;have HA:ae (cN w a len (fR x)):=hA;have HL:ae ((fR x).length=len):=hl;clear hA hl;obtain⟨w1,vD,A9,ck⟩:=FM w size (by omega);have f8:ae (w1.ownsRow w.heap.size 5 1 (.slice (some ⟨w.heap.size,0,none⟩) size size) size ((zz x size 0).map bv)):=by
  rw[Qw];have e:(cz size (0:UInt8)).map bv=cz size (.int .u8 0):=by simp[bv]
  rw[e];exact A9
 have iG:ae (Below w.heap.size w w1):=ck;clear A9 ck
 go_enter func113,ntmps113
 go_wp2
 clear vD
 go_loopw [6] (λi wr=>∃k:Nat,k≤size∧k≤len∧i= .int .i64 k∧ae (wr.ownsRow w.heap.size 5 1 (.slice (some ⟨w.heap.size,0,none⟩) size size) size ((zz x size k).map bv))∧ae (Below w.heap.size w wr)) (λi _=>size-(intOf i).toNat)
 case atStart=>exact⟨0,Nat.zero_le _,Nat.zero_le _,rfl,f8,iG⟩
 case round=>
  clear f8 iG;obtain⟨k,hk,AB,rfl,hO,hW⟩:=hrel
  by_cases dN:k<size∧k<len
  ·obtain⟨WB,hk2⟩:=dN;obtain⟨b,off,rfl,kt⟩:=HA.o.at_ k hk2;have hc:wr.cell? ⟨b,off+k,none⟩=some (.int .i64 (cf (fR x) k:Int)):=by rw[hW.out.cell (p:=⟨b,off+k,none⟩) (World.block_lt_of_cell? w _ kt)];exact kt
   have hx:=pn (fR x) (gJ x) k;have hf:=hO.out.frozenAt k;have jc:∃v0,wr.cell? ⟨w.heap.size,k,none⟩=some v0:=by
    rw[hO.out.cellAt k (by omega)];have h1:k<((zz x size k).map bv).length:=by have:=hO.out.1;omega
    exact⟨_,List.getElem?_eq_getElem h1⟩
   obtain⟨v0,hv0⟩:=jc;have i1:(k:Int)<(size:Int):=by omega
   have i2:(k:Int)<(len:Int):=by omega
   have nW:ae ((wr.setCell ⟨w.heap.size,k,none⟩ (.int .u8 (cf (fR x) k:Int))).ownsRow w.heap.size 5 1 (.slice (some ⟨w.heap.size,0,none⟩) size size) size ((zz x size (k+1)).map bv)):=by
    rw[←TH x size k WB,List.map_set];have e:bv (UInt8.ofNat (x/256^k % 256))= .int .u8 (cf (fR x) k:Int):=by rw[Mg];simp[bv]
    rw[e];exact(hO.out.stored k _).1
   have fw:ae (Below w.heap.size w (wr.setCell ⟨w.heap.size,k,none⟩ (.int .u8 (cf (fR x) k:Int)))):=hW.out.setCell (di _) _;have ar3:(cf (fR x) k:Int) % 256=(cf (fR x) k:Int):=by omega
   clear kt hO hW
   go_wp2
   exact⟨⟨k+1,by omega,by omega,by go_num,nW,fw⟩,by simp[intOf];omega⟩
  ·have HR:ae (zz x size k=zA size x):=TI x size k hk (by
    rcases Nat.lt_or_ge k size with h1|h1
    ·right
     have h2:k=len:=by omega
     rw[h2,←HL.o];exact Fe x
    ·left;omega)
   have hE:ae (bj wr (some ⟨w.heap.size,0,none⟩) size (zA size x)):=by rw[←HR.o];exact bj.jT hO.out
   clear hO HR
   by_cases h1:k<size
   ·have i1:(k:Int)<(size:Int):=by omega
    have i2:¬(k:Int)<(len:Int):=by omega
    clear dN
    go_wp2
    go_ret
    exact⟨w.heap.size,rfl,di _,hW.out,hE.out⟩
   ·have i1:¬(k:Int)<(size:Int):=by omega
    clear dN
    go_wp2
    go_ret
    exact⟨w.heap.size,rfl,di _,hW.out,hE.out⟩
def XA (p q:Nat)(key:aO):aO:=
 (List.range 16).map λi=>if i % 4=3∧i<p then UInt8.ofNat ((at8 key i).toNat % 16) else if(i % 4=0∧i≠0)∧i<q then UInt8.ofNat ((at8 key i).toNat/4*4) else at8 key i
theorem gz (p q:Nat)(key:aO):(XA p q key).length=16:=by simp[XA]
theorem Ki (key:aO)(h:key.length=32):XA 3 0 key=key.take 16:=by
 apply List.ext_getElem
 ·simp[XA,h]
 ·intro i h1 h2;have hi:i<16:=by simpa[XA] using h1
  simp only[XA,List.getElem_map,List.getElem_range,List.getElem_take];rw[if_neg (by omega),if_neg (by omega),cP _ _ (by omega)]
theorem O5 (key:aO):XA 19 16 key=iO key:=by
 apply List.ext_getElem
 ·simp[XA,iO]
 ·intro i h1 h2;have hi:i<16:=by simpa[XA] using h1
  simp only[XA,iO,SL,List.getElem_map,List.getElem_range]
  by_cases h3:i % 4=3
  ·rw[if_pos ⟨h3,by omega⟩,if_pos h3]
  ·rw[if_neg (by omega),if_neg h3]
   by_cases h4:i % 4=0∧i≠0
   ·rw[if_pos ⟨h4,by omega⟩,if_pos h4]
   ·rw[if_neg (λh=>h4 h.1),if_neg h4]
theorem Hi (p q:Nat)(key:aO)(i:Nat)(h:i<16):at8 (XA p q key) i=if i % 4=3∧i<p then UInt8.ofNat ((at8 key i).toNat % 16) else if(i % 4=0∧i≠0)∧i<q then UInt8.ofNat ((at8 key i).toNat/4*4) else at8 key i:=by rw[cP _ _ (by rw[gz];exact h)];simp[XA]
theorem Kj (key:aO)(j:Nat)(h:j<4):(XA (3+4*j) 0 key).set (3+4*j) (UInt8.ofNat ((at8 key (3+4*j)).toNat % 16))=XA (3+4*(j+1)) 0 key:=by
 apply List.ext_getElem
 ·simp[XA]
 ·intro i h1 h2;have hi:i<16:=by simpa[XA] using h2
  rw[List.getElem_set]
  by_cases e:3+4*j=i
  ·subst e;rw[if_pos rfl];simp only[XA,List.getElem_map,List.getElem_range];rw[if_pos (by omega)]
  ·rw[if_neg e];simp only[XA,List.getElem_map,List.getElem_range]
   by_cases h3:i % 4=3∧i<3+4*j
   ·rw[if_pos h3,if_pos (by omega)]
   ·rw[if_neg h3,if_neg (by omega),if_neg (by omega)]
theorem Kk (key:aO)(j:Nat)(h:j<3):(XA 19 (4+4*j) key).set (4+4*j) (UInt8.ofNat ((at8 key (4+4*j)).toNat/4*4))=XA 19 (4+4*(j+1)) key:=by
 apply List.ext_getElem
 ·simp[XA]
 ·intro i h1 h2;have hi:i<16:=by simpa[XA] using h2
  rw[List.getElem_set]
  by_cases e:4+4*j=i
  ·subst e;rw[if_pos rfl];simp only[XA,List.getElem_map,List.getElem_range];rw[if_neg (by omega),if_pos (by omega)]
  ·rw[if_neg e];simp only[XA,List.getElem_map,List.getElem_range]
   by_cases h3:i % 4=3∧i<19
   ·rw[if_pos h3,if_pos h3]
   ·rw[if_neg h3,if_neg h3]
    by_cases h4:(i % 4=0∧i≠0)∧i<4+4*j
    ·rw[if_pos h4,if_pos (by omega)]
    ·rw[if_neg h4,if_neg (by omega)]
theorem pO (r:Nat)(l:aO)(k:Nat):jV r l k<256^17:=Nat.lt_trans (P5 r l k) (by decide)
theorem MQ (kb eh kc:Nat)(key:aO)(a:bW)(len cap:Nat)(l:aO)(w:aw)(C8:32≤kc)(hK:bj w (some ⟨kb,eh,none⟩) 32 key)(hB:bj w a len l)(FW:len≤10000)(ig:len≤cap):
  Calls prog 141 #[.slice (some ⟨kb,eh,none⟩) 32 kc,.slice a len cap] w λe w'=>∃g,e= .returned (.slice (some ⟨g,0,none⟩) 16 16)∧w.heap.size≤g∧Below w.heap.size w w'∧bj w' (some ⟨g,0,none⟩) 16 (tag key l):=by
 have AB:=hK.1;have I7:=hK.lt (by omega);have hl:=hB.1;have HK:ae (bj w (some ⟨kb,eh,none⟩) 32 key):=hK;have HB:ae (bj w a len l):=hB;clear hK hB;obtain⟨v1,w1,lj,cH,uB⟩:=cI (w.alloc (.cells #[] 5)) w.heap.size (.slice (some ⟨w.heap.size,0,none⟩) 0 0) 0 [] (World.ownsRow_made w #[] 0 (di _) (Nat.zero_le _) rfl) ⟨kb,eh,none⟩ 16 kc (key.take 16) ((HK.o.cut (by omega)).later eF) (by simp) (by omega);have MJ:Below w.heap.size w w1:=eF.grown uB (by simp) (λk hk=>by simp[Value.ownBlock] at hk;omega);obtain⟨g,gc,rfl,pW,_⟩:=dJ.jT cH (by omega);rw[List.nil_append,←Ki key AB] at cH;have f8:ae (w1.ownsRow w.heap.size 5 1 (.slice (some ⟨g,0,none⟩) 16 gc) 16 ((XA 3 0 key).map bv)):=cH;have fU:ae (Below w.heap.size w w1):=MJ;have jC:ae ((Builtin.append_ #[22,22] 22 #[.slice (some ⟨w.heap.size,0,none⟩) 0 0,.slice (some ⟨kb,eh,none⟩) 16 kc]).run prog (w.alloc (.cells #[] 5))= .ok (.slice (some ⟨g,0,none⟩) 16 gc) w1):=lj;clear lj cH uB MJ
 go_enter func141,ntmps141
 go_wp2_with (at_builtin;refine ao rfl (.tmp 11) (.tmp 13) 22 rfl _ _ _ _ rfl rfl jC.o ?_)
 clear jC
 go_loopw [6] (λi wr=>∃j:Nat,j≤4∧i= .int .i64 ((3+4*j:Nat):Int)∧ae (wr.ownsRow w.heap.size 5 1 (.slice (some ⟨g,0,none⟩) 16 gc) 16 ((XA (3+4*j) 0 key).map bv))∧ae (Below w.heap.size w wr)) (λi _=>20-(intOf i).toNat)
 case atStart=>exact⟨0,by omega,rfl,f8,fU⟩
 case round=>
  clear f8 fU;obtain⟨j,hj,rfl,hO,hW⟩:=hrel;obtain⟨p,hp⟩:=aW (3+4*j);rw[hp] at hO⊢
  by_cases dN:j<4
  ·have xr:(p:Int)<16:=by omega
   have hx:=(at8 key p).toNat_lt;have hc:wr.cell? ⟨g,p,none⟩=some (.int .u8 ((at8 key p).toNat:Int)):=by rw[hO.out.cellAt p (by omega),List.getElem?_map,List.getElem?_eq_getElem (by rw[gz];omega)];rw[←cP _ _ (by rw[gz];omega),Hi p 0 key p (by omega),if_neg (by omega),if_neg (by omega)];rfl
   have hf:=hO.out.frozenAt p;obtain⟨r,hr⟩:=aW ((at8 key p).toNat % 16);have fr1:((at8 key p).toNat:Int) % 16=(r:Int):=by omega
   have fr2:((at8 key p).toNat:Int).tmod 16=(r:Int):=by rw[Int.tmod_eq_emod_of_nonneg (by omega)];omega
   have nW:ae ((wr.setCell ⟨g,p,none⟩ (.int .u8 (r:Int))).ownsRow w.heap.size 5 1 (.slice (some ⟨g,0,none⟩) 16 gc) 16 ((XA (3+4*(j+1)) 0 key).map bv)):=by
    rw[←Kj key j dN,List.map_set,hp];have e:bv (UInt8.ofNat ((at8 key p).toNat % 16))= .int .u8 (r:Int):=by rw[hr];simp[bv];omega
    rw[e];exact(hO.out.stored p _).1
   have fw:ae (Below w.heap.size w (wr.setCell ⟨g,p,none⟩ (.int .u8 (r:Int)))):=hW.out.setCell pW _;have hrb:r<16:=by omega
   clear hO hW hr
   go_wp2
   exact⟨⟨j+1,by omega,by go_num,nW,fw⟩,by simp[intOf];omega⟩
  ·have xr:¬(p:Int)<16:=by omega
   have nW:ae (wr.ownsRow w.heap.size 5 1 (.slice (some ⟨g,0,none⟩) 16 gc) 16 ((XA 19 4 key).map bv)):=by
    have e:XA p 0 key=XA 19 4 key:=by
     rw[show p=19 by omega];apply List.ext_getElem
     ·simp[XA]
     ·intro i h1 h2;simp only[XA,List.getElem_map,List.getElem_range]
      by_cases h3:i % 4=3∧i<19
      ·rw[if_pos h3,if_pos h3]
      ·rw[if_neg h3,if_neg h3,if_neg (by omega),if_neg (by omega)]
    rw[←e];exact hO.out
   clear hO
   go_wp2
   go_loopw [7] (λi wr=>∃j:Nat,j≤3∧i= .int .i64 ((4+4*j:Nat):Int)∧ae (wr.ownsRow w.heap.size 5 1 (.slice (some ⟨g,0,none⟩) 16 gc) 16 ((XA 19 (4+4*j) key).map bv))∧ae (Below w.heap.size w wr)) (λi _=>20-(intOf i).toNat)
   case atStart=>exact⟨0,by omega,rfl,nW,hW⟩
   case round=>
    clear nW hW;clear hp xr dN hj;obtain⟨j,hj,rfl,hO,hW⟩:=hrel;obtain⟨p,hp⟩:=aW (4+4*j);rw[hp] at hO⊢
    by_cases dN:j<3
    ·have xr:(p:Int)<16:=by omega
     have hx:=(at8 key p).toNat_lt;have hc:wr.cell? ⟨g,p,none⟩=some (.int .u8 ((at8 key p).toNat:Int)):=by rw[hO.out.cellAt p (by omega),List.getElem?_map,List.getElem?_eq_getElem (by rw[gz];omega)];rw[←cP _ _ (by rw[gz];omega),Hi 19 p key p (by omega),if_neg (by omega),if_neg (by omega)];rfl
     have hf:=hO.out.frozenAt p;obtain⟨r,hr⟩:=aW ((at8 key p).toNat/4);obtain⟨s,hs⟩:=aW (r*4);have hrb:r<64:=by omega
     have BU:s<256:=by omega
     have fr1:((at8 key p).toNat:Int)/4=(r:Int):=by omega
     have fr2:((at8 key p).toNat:Int).tdiv 4=(r:Int):=by rw[Int.tdiv_eq_ediv_of_nonneg (by omega)];omega
     have fs:(r:Int)*4=(s:Int):=by omega
     have nW:ae ((wr.setCell ⟨g,p,none⟩ (.int .u8 (s:Int))).ownsRow w.heap.size 5 1 (.slice (some ⟨g,0,none⟩) 16 gc) 16 ((XA 19 (4+4*(j+1)) key).map bv)):=by
      rw[←Kk key j dN,List.map_set,hp];have e:bv (UInt8.ofNat ((at8 key p).toNat/4*4))= .int .u8 (s:Int):=by rw[hr,hs];simp[bv];omega
      rw[e];exact(hO.out.stored p _).1
     have fw:ae (Below w.heap.size w (wr.setCell ⟨g,p,none⟩ (.int .u8 (s:Int)))):=hW.out.setCell pW _;clear hO hW hr hs
     go_wp2
     exact⟨⟨j+1,by omega,by go_num,nW,fw⟩,by simp[intOf];omega⟩
    ·have xr:¬(p:Int)<16:=by omega
     have HR:ae (bj wr (some ⟨g,0,none⟩) 16 (iO key)):=by
      rw[←O5,show(16:Nat)=p by omega];have:=bj.jT hO.out
      rwa [show(16:Nat)=p by omega] at this
     clear hO;have XX:ae (cN (wr.alloc (.cells #[] 3)) (some ⟨wr.heap.size,0,none⟩) 0 (fR (jV (iP key) l 0))):=⟨by show(fR 0).length=0;rw[jw];rfl,.inl rfl⟩;have HR0:ae (bj (wr.alloc (.cells #[] 3)) (some ⟨g,0,none⟩) 16 (iO key)):=HR.o.later eF;have pX:ae (Below w.heap.size w (wr.alloc (.cells #[] 3))):=hW.out.alloc hW.out.size _;clear hp hW HR dN hj
     go_wp2
     go_loopw [8,9] (λv i wr=>∃(k n c:Nat) (a':bW),16*k≤len+15∧i= .int .i64 ((16*k:Nat):Int)∧v= .slice a' n c∧n≤c∧ae (cN wr a' n (fR (jV (iP key) l k)))∧ae (bj wr (some ⟨g,0,none⟩) 16 (iO key))∧ae (Below w.heap.size w wr)) (λ_ i _=>len+16-(intOf i).toNat)
     case atStart=>exact⟨0,0,0,_,by omega,rfl,rfl,di _,XX,HR0,pX⟩
     case round=>
      clear XX HR0 pX xr;obtain⟨k,n,c,a',hk,rfl,rfl,uj,hI,hR,hW⟩:=hrel;obtain⟨p,hp⟩:=aW (16*k);rw[hp] at hk⊢;have hnb:n≤17:=by rw[←hI.out.1];exact dy _ _ (pO _ _ _)
      by_cases dN:p<len
      ·have i1:(p:Int)<(len:Int):=by omega
       obtain⟨q,hq⟩:∃q,q=min (p+16) len:=⟨_,rfl⟩;have Af:p<q:=by omega
       have Ag:q≤len:=by omega
       have hq3:q-p≤16:=by omega
       have ago:(if(len:Int)<(p:Int)+16 then(len:Int) else(p:Int)+16)=(q:Int):=by split<;>omega
       have TJ:ae ((l.drop p).take (q-p)=fQ l (16*k) 16):=by
        show _=_;unfold fQ;rw[hp];apply List.ext_getElem
        ·simp;omega
        ·intro i h1 h2;simp
       clear hq;obtain⟨ba,fz,rfl⟩:∃ba fz,a=some ⟨ba,fz,none⟩:=by
        rcases HB.o.2 with h0|⟨b',kf,e,_⟩
        ·omega
        ·exact⟨b',kf,e⟩
       have JD:=HB.o.lt (by omega);have hcn:¬cap=p:=by omega
       have TL:(p:Int)≤(cap:Int):=by omega
       have hqc:(q:Int)≤(cap:Int):=by omega
       have Kl:(p:Int)≤(q:Int):=by omega
       have hqi:((q:Int)-(p:Int))=((q-p:Nat):Int):=by omega
       have Jc:=(HB.o.below JD hW.out).sub (n:=p) (q:=q) (by omega) Ag;obtain⟨v3,w3,iu,dt,uu⟩:=cI (wr.alloc (.cells #[] 5)) wr.heap.size (.slice (some ⟨wr.heap.size,0,none⟩) 0 0) 0 [] (World.ownsRow_made wr #[] 0 (di _) (Nat.zero_le _) rfl) ⟨ba,fz+p,none⟩ (q-p) (cap-p) _ (Jc.later eF) (by simp) (by omega);have vH:Below wr.heap.size wr w3:=eF.grown uu (by simp) (λk hk=>by simp[Value.ownBlock] at hk;omega);have fW:bj (w3.alloc (.cells #[.int .u8 1] 5)) (some ⟨w3.heap.size,0,none⟩) 1 [1]:=jK _ [1] w3.heap.size _ _ _ (eC w3 _) rfl;obtain⟨v4,w4,km,iw,Bj⟩:=cI (w3.alloc (.cells #[.int .u8 1] 5)) wr.heap.size v3 _ _ (dt.alloc _) ⟨w3.heap.size,0,none⟩ 1 1 [1] fW (by have:=vH.size;simp;omega) (by omega);have zv:Below wr.heap.size wr w4:=(vH.alloc vH.size _).grown Bj (by have:=vH.size;simp;omega) (λk hk=>(dt.lt k hk).1);rw[List.nil_append,TJ.o] at iw;obtain⟨g4,c4,rfl,alr,_⟩:=dJ.jT iw (by omega);have BV:ae (bj w4 (some ⟨g4,0,none⟩) (0+(q-p)+1) (fQ l (16*k) 16++[1])):=bj.jT iw;have py:ae ((Builtin.append_ #[22,22] 22 #[.slice (some ⟨wr.heap.size,0,none⟩) 0 0,.slice (some ⟨ba,fz+p,none⟩) (q-p) (cap-p)]).run prog (wr.alloc (.cells #[] 5))= .ok v3 w3):=iu;have xM:ae ((Builtin.append_ #[22,22] 22 #[v3,.slice (some ⟨w3.heap.size,0,none⟩) 1 1]).run prog (w3.alloc (.cells #[.int .u8 1] 5))= .ok (.slice (some ⟨g4,0,none⟩) (0+(q-p)+1) c4) w4):=km;have X4:ae (cN w4 a' n (fR (jV (iP key) l k))):=hI.out.later zv;have HR4:ae (bj w4 (some ⟨g,0,none⟩) 16 (iO key)):=hR.out.later zv;have Ci:ae (Below w.heap.size w w4):=hW.out.trans (zv.mono hW.out.size);clear iu dt uu vH fW km iw Bj zv Jc hI hR hW alr
       go_wp2_with (at_builtin;first|refine ao rfl (.tmp 47) (.tmp 55) 22 rfl _ _ _ _ rfl rfl py.o ?_|refine ao rfl (.tmp 56) (.tmp 57) 22 rfl _ _ _ _ rfl rfl xM.o ?_)
       clear py xM;have agD:ae (bj w4 (some ⟨g4,0,none⟩) (q-p+1) (fQ l (16*k) 16++[1])):=by have:=BV.o;rwa [Nat.zero_add] at this
       clear BV;refine(oG _ (q-p+1) c4 _ w4 agD.o (by omega)).mono ?_;rintro e w5 ⟨a5,n5,c5,rfl,iE,XY,LN⟩;have MR:cN w5 a5 n5 (fR (rG l k)):=XY;have agE:n5≤17:=by rw[←MR.1];exact dy _ _ (CI l k)
       have Qx:ae (cN w5 a5 n5 (fR (rG l k))):=MR;have agF:ae (cN w5 a' n (fR (jV (iP key) l k))):=X4.o.later iE;have Km:ae (bj w5 (some ⟨g,0,none⟩) 16 (iO key)):=HR4.o.later iE;have wh:ae (Below w.heap.size w w5):=Ci.o.trans (iE.mono Ci.o.size);clear XY MR iE X4 HR4 Ci agD
       go_wp2_with fail
       refine(mO a' n c _ a5 n5 c5 _ w5 agF.o Qx.o (gJ _) (gJ _) (by omega) (by omega)).mono ?_;rintro e w6 ⟨a6,n6,c6,rfl,lZ,O4,Qh⟩;rw[dO,dO] at O4;have agB:n6≤18:=by rw[←O4.1];refine dy _ _ ?_;have h1:=pO (iP key) l k;have h2:=CI l k;rw[Nat.pow_succ];omega
       have HI6:ae (cN w6 a6 n6 (fR (jV (iP key) l k+rG l k))):=O4;have HR6:ae (bj w6 (some ⟨g,0,none⟩) 16 (iO key)):=Km.o.later lZ;have G9:ae (Below w.heap.size w w6):=wh.o.trans (lZ.mono wh.o.size);clear O4 lZ agF Qx Km wh
       go_wp2_with fail
       refine(oG _ 16 gc _ w6 HR6.o (by omega)).mono ?_;rintro e w7 ⟨a7,n7,c7,rfl,yi,hI7,J1⟩;have ab6:cN w7 a7 n7 (fR (iP key)):=hI7;have ar5:n7≤16:=by rw[←ab6.1];exact dy _ _ (CJ key)
       have HI7:ae (cN w7 a7 n7 (fR (iP key))):=ab6;have agG:ae (cN w7 a6 n6 (fR (jV (iP key) l k+rG l k))):=HI6.o.later yi;have Cm:ae (bj w7 (some ⟨g,0,none⟩) 16 (iO key)):=HR6.o.later yi;have J3:ae (Below w.heap.size w w7):=G9.o.trans (yi.mono G9.o.size);clear hI7 ab6 yi HI6 HR6 G9
       go_wp2_with fail
       refine(uz a6 n6 c6 _ a7 n7 c7 _ w7 agG.o HI7.o (gJ _) (gJ _) (by omega) (by omega)).mono ?_;rintro e w8 ⟨a8,n8,c8,rfl,i9,hI8,Tp⟩;rw[dO,dO] at hI8;have ar6:n8≤34:=by rw[←hI8.1];refine dy _ _ ?_;have h1:=pO (iP key) l k;have h2:=CI l k;have h3:=CJ key;have h4:(jV (iP key) l k+rG l k)*iP key<(256^17+256^17)*256^16:=Nat.mul_lt_mul_of_lt_of_le (by omega) (Nat.le_of_lt h3) (Nat.pow_pos (by decide));exact tV h4 (by decide)
       have HI8:ae (cN w8 a8 n8 (fR ((jV (iP key) l k+rG l k)*iP key))):=hI8;have iK:ae (bj w8 (some ⟨g,0,none⟩) 16 (iO key)):=Cm.o.later i9;have X5:ae (Below w.heap.size w w8):=J3.o.trans (i9.mono J3.o.size);clear hI8 i9 agG HI7 Cm J3
       go_wp2_with fail
       refine(C' a8 n8 c8 _ 16 2 5 w8 HI8.o (gJ _) Tp (by omega) (by omega) (by omega) (by omega) (by omega) (by omega)).mono ?_;rintro e w9 ⟨a9,n9,c9,rfl,Hj,hI9,hn9⟩;rw[dO] at hI9;have HI9:ae (cN w9 a9 n9 (fR (jV (iP key) l (k+1)))):=hI9;have xt:ae (bj w9 (some ⟨g,0,none⟩) 16 (iO key)):=iK.o.later Hj;have HW9:ae (Below w.heap.size w w9):=X5.o.trans (Hj.mono X5.o.size);clear hI9 Hj HI8 iK X5
       go_wp2
       exact⟨⟨k+1,n9,c9,a9,by omega,by go_num,rfl,hn9,HI9,xt,HW9⟩,by simp[intOf];omega⟩
      ·have i1:¬(p:Int)<(len:Int):=by omega
       have HKn:ae (k=Jw l.length):=by show _=_;unfold Jw;omega
       have hKb:bj wr (some ⟨kb,eh+16,none⟩) (32-16) ((key.drop 16).take (32-16)):=(HK.o.below I7 hW.out).sub (n:=16) (q:=32) (by omega) (di _);have HKb:ae (bj wr (some ⟨kb,eh+16,none⟩) 16 (fQ key 16 16)):=hKb;clear hKb hR
       go_wp2_with fail
       refine(oG _ 16 (kc-16) _ wr HKb.o (by omega)).mono ?_;rintro e w5 ⟨a5,n5,c5,rfl,iE,XY,LN⟩;have MR:cN w5 a5 n5 (fR (sY key)):=XY;have agE:n5≤16:=by rw[←MR.1];exact dy _ _ (CK key)
       have Qx:ae (cN w5 a5 n5 (fR (sY key))):=MR;have HIb:ae (cN w5 a' n (fR (jV (iP key) l k))):=hI.out.later iE;have wh:ae (Below w.heap.size w w5):=hW.out.trans (iE.mono hW.out.size);clear XY MR iE hI hW HKb
       go_wp2_with fail
       refine(mO a' n c _ a5 n5 c5 _ w5 HIb.o Qx.o (gJ _) (gJ _) (by omega) (by omega)).mono ?_;rintro e w6 ⟨a6,n6,c6,rfl,lZ,O4,Qh⟩;rw[dO,dO] at O4;have agB:n6≤18:=by
        rw[←O4.1];refine dy _ _ ?_;have h1:=pO (iP key) l k;have h2:=CK key;have h3:(256:Nat)^16≤256^17:=by decide
        rw[Nat.pow_succ];omega
       have HI6:ae (cN w6 a6 n6 (fR (jV (iP key) l k+sY key))):=O4;have G9:ae (Below w.heap.size w w6):=wh.o.trans (lZ.mono wh.o.size);clear O4 lZ HIb Qx wh
       go_wp2_with fail
       refine(zC a6 n6 c6 16 _ w6 HI6.o (by omega) (by omega)).mono ?_;rintro e w7 ⟨g7,rfl,He,yi,yj⟩;have Cn:ae (bj w7 (some ⟨g7,0,none⟩) 16 (tag key l)):=by unfold tag;rw[←HKn.o];exact yj
       have J3:ae (Below w.heap.size w w7):=G9.o.trans (yi.mono G9.o.size);have MM:w.heap.size≤g7:=kx G9.o.size He;clear yj yi HI6 G9
       go_wp2
       go_ret
       exact⟨g7,rfl,MM,J3.o,Cn.o⟩
theorem TN (l:aO)(j:Nat):l++cz (j+1) 0=l++cz j 0++[0]:=by rw[List.append_assoc,List.replicate_succ']
theorem xN (a:bW)(len cap:Nat)(l:aO)(w:aw)(hB:bj w a len l)(rk:a=none→cap=0)(FW:len≤10000):
  Calls prog 140 #[.slice a len cap] w λe w'=>∃v,e= .returned v∧Below w.heap.size w w'∧w'.ownsRow w.heap.size 5 1 v (len+iF len) ((jW l).map bv):=by
 have hl:=hB.1;have iz:Below w.heap.size w (w.alloc (.cells #[] 5)):=eF;obtain⟨v1,w1,lj,cH,uB⟩:=bx (w.alloc (.cells #[] 5)) w.heap.size (.slice (some ⟨w.heap.size,0,none⟩) 0 0) 0 [] (World.ownsRow_made w #[] 0 (di _) (Nat.zero_le _) rfl) a len cap l (hB.later iz) rk (by simp) (by omega);have fU:ae (Below w.heap.size w w1):=iz.grown uB (by simp) (λk hk=>by simp[Value.ownBlock] at hk;omega);rw[Nat.zero_add,List.nil_append] at cH;obtain⟨a1,c1,rfl,_,_,_,_⟩:=bq cH;have f8:ae (w1.ownsRow w.heap.size 5 1 (.slice a1 len c1) (len+0) ((l++cz 0 0).map bv)):=by show World.ownsRow _ _ _ _ _ _ _;simpa using cH
 have jC:ae ((Builtin.append_ #[22,22] 22 #[.slice (some ⟨w.heap.size,0,none⟩) 0 0,.slice a len cap]).run prog (w.alloc (.cells #[] 5))= .ok (.slice a1 len c1) w1):=lj;clear lj cH uB iz hB
 go_enter func140,ntmps140
 go_wp2_with (at_builtin;refine ao rfl (.tmp 4) (.tmp 5) 22 rfl _ _ _ _ rfl rfl jC.o ?_)
 clear jC
 go_loopw [3] (λv wr=>∃(j n c:Nat) (a':bW),j≤iF len∧n=len+j∧v= .slice a' n c∧ae (wr.ownsRow w.heap.size 5 1 (.slice a' n c) n ((l++cz j 0).map bv))∧ae (Below w.heap.size w wr)) (λv _=>match v with| .slice _ n _=>len+iF len-n|_=>0)
 case atStart=>exact⟨0,len,c1,a1,Nat.zero_le _,rfl,rfl,f8,fU⟩
 case round=>
  clear f8 fU;obtain⟨j,n,c,a',hj,hn,rfl,hO,hW⟩:=hrel
  by_cases dN:j<iF len
  ·have hr:(n:Int).tmod 16=((n % 16:Nat):Int):=by rw[Int.tmod_eq_emod_of_nonneg (by omega)];omega
   have eL:¬((n % 16:Nat):Int)=0:=by unfold iF at dN;omega
   obtain⟨r,zp⟩:=aW (n % 16);rw[zp] at hr eL;have hr3:(n:Int) % 16=(r:Int):=by omega
   have fW:bj (wr.alloc (.cells #[.int .u8 0] 5)) (some ⟨wr.heap.size,0,none⟩) 1 [0]:=jK _ [0] wr.heap.size _ _ _ (eC wr _) rfl;obtain⟨v2,w2,nD,cZ,kj⟩:=cI (wr.alloc (.cells #[.int .u8 0] 5)) w.heap.size _ n _ (hO.out.alloc _) ⟨wr.heap.size,0,none⟩ 1 1 [0] fW (by have:=hW.out.size;simp;omega) (by unfold iF at dN;omega);rw[←TN] at cZ;obtain⟨a2,c2,rfl,_,_,_,_⟩:=bq cZ;have gM:ae ((Builtin.append_ #[22,22] 22 #[.slice a' n c,.slice (some ⟨wr.heap.size,0,none⟩) 1 1]).run prog (wr.alloc (.cells #[.int .u8 0] 5))= .ok (.slice a2 (n+1) c2) w2):=nD;have nW:ae (w2.ownsRow w.heap.size 5 1 (.slice a2 (n+1) c2) (n+1) ((l++cz (j+1) 0).map bv)):=cZ;have fw:ae (Below w.heap.size w w2):=(hW.out.alloc hW.out.size _).grown kj (by have:=hW.out.size;simp;omega) (λk hk=>(hO.out.lt k hk).1);have HN:ae (n+1=len+(j+1)):=by show _=_;omega
   have HM:ae (len+iF len-(n+1)<len+iF len-n):=by show _<_;omega
   clear nD cZ kj fW hO hW hn zp
   go_wp2_with (at_builtin;refine ao rfl (.tmp 11) (.tmp 12) 22 rfl _ _ _ _ rfl rfl gM.o ?_)
   exact⟨⟨j+1,n+1,c2,a2,by omega,HN.o,rfl,nW,fw⟩,by simpa using HM.o⟩
  ·have ej:j=iF len:=by omega
   have hr3:(n:Int) % 16=0:=by have:=Ao l;rw[hl] at this;omega
   have hr:(n:Int).tmod 16=0:=by rw[Int.tmod_eq_emod_of_nonneg (by omega)];exact hr3
   have HO:ae (wr.ownsRow w.heap.size 5 1 (.slice a' n c) (len+iF len) ((jW l).map bv)):=by have h1:=hO.out;unfold jW;rw[hl,←ej,←hn];exact h1
   clear hn ej hO
   go_wp2
   go_ret
   exact⟨_,rfl,hW.out,HO.o⟩
theorem Dd (kb eh nb mj kc nc:Nat)(key aq:aO)(a:bW)(la ca:Nat)(ad:aO)(c:bW)(lc cc:Nat)(ct:aO)(w:aw)(C8:32≤kc)(uj:12≤nc)(Hc:kc≤9223372036854775807)(Qq:nc≤9223372036854775807)
  (hK:bj w (some ⟨kb,eh,none⟩) 32 key) (hN:bj w (some ⟨nb,mj,none⟩) 12 aq) (hA:bj w a la ad) (Co:a=none→ca=0) (hC:bj w c lc ct) (O0:c=none→cc=0) (EU:la≤1000) (ig:lc≤1000):
  Calls prog 120 #[.slice (some ⟨kb,eh,none⟩) 32 kc,.slice (some ⟨nb,mj,none⟩) 12 nc,.slice a la ca,.slice c lc cc] w λe w'=>∃g,e= .returned (.slice (some ⟨g,0,none⟩) 16 16)∧w.heap.size≤g∧Below w.heap.size w w'∧bj w' (some ⟨g,0,none⟩) 16 (jl key aq ad ct):=by
 have Si:=hA.1;have dN:=hC.1;have HK:ae (bj w (some ⟨kb,eh,none⟩) 32 key):=hK;have HN:ae (bj w (some ⟨nb,mj,none⟩) 12 aq):=hN;have HA:ae (bj w a la ad):=hA;have HC:ae (bj w c lc ct):=hC;clear hK hN hA hC
 go_enter func120,ntmps120
 go_wp2_with fail
 refine(xN a la ca ad _ HA.o Co (by omega)).mono ?_;rintro e w1 ⟨v1,rfl,ck,cH⟩;have f8:ae (w1.ownsRow w.heap.size 5 1 v1 (la+iF la) ((jW ad).map bv)):=cH;have fU:ae (Below w.heap.size w w1):=ck;clear cH ck
 go_wp2_with fail
 refine(xN c lc cc ct _ (HC.o.later fU.o) O0 (by omega)).mono ?_;rintro e w2 ⟨v2,rfl,cM,cZ⟩;obtain⟨a2,c2,rfl,rN,_,_,tL⟩:=bq cZ;have De:=f8.o.kept (cG cM) (by
  rcases h:Value.ownBlock v1 with _|j
  ·exact .inl rfl
  ·exact .inr (by simp))
 have vG:Below w.heap.size w w2:=fU.o.trans (cM.mono fU.o.size);have uX:iF la<16:=by unfold iF;omega
 have yM:iF lc<16:=by unfold iF;omega
 obtain⟨v3,w3,iu,dt,uu⟩:=bx w2 w.heap.size v1 _ _ De a2 _ c2 _ rN tL vG.size (by omega);obtain⟨a3,c3,rfl,wm,_,_,CZ⟩:=bq dt;have py:ae (_):=iu;have pI:ae (Below w.heap.size w w3):=vG.grown uu vG.size (λk hk=>(De.lt k hk).1);obtain⟨m,hm⟩:=aW (la+iF la+(lc+iF lc));have hmb:m≤2040:=by omega
 rw[hm] at wm;have Ax:ae (bj w3 a3 m (jW ad++jW ct)):=wm;have Hn3:ae (a3=none→c3=0):=CZ;have hm':ae (la+iF la+(lc+iF lc)=m):=hm;have Hll:ae (ad.length=la):=Si;have Hlt:ae (ct.length=lc):=dN;clear iu dt uu De vG cZ rN cM wm CZ tL f8 fU uX yM Si dN
 go_wp2_with (at_builtin;refine ao rfl (.tmp 11) (.tmp 13) 22 rfl _ _ _ _ rfl rfl py.o ?_)
 refine(oq a3 m c3 8 la (by omega) false _ _ (by omega) Ax.o Hn3.o 8 (by decide)).mono ?_;rintro e w4 ⟨a4,c4,rfl,js,J0,_⟩;have TO:=bj.gS J0;have RZ:a4=none→c4=0:=by
  intro e
  rcases J0.2 with⟨_,_,h0⟩|⟨_,_,_,h0,_⟩
  ·exact h0
  ·rw[e] at h0;cases h0
 have BV:ae (bj w4 a4 (m+8) (jW ad++jW ct++zA 8 la)):=TO;have Hn4:ae (a4=none→c4=0):=RZ;have Ci:ae (Below w.heap.size w w4):=pI.o.trans (js.mono pI.o.size);clear js J0 TO RZ Ax Hn3 pI py
 go_wp2_with fail
 refine(oq a4 (m+8) c4 8 lc (by omega) false _ _ (by omega) BV.o Hn4.o 8 (by decide)).mono ?_;rintro e w5 ⟨a5,c5,rfl,iE,EV,_⟩;have sP:=bj.gS EV;have WC:m+8+8≤c5:=by rcases EV.2 with⟨_,h0,_⟩|⟨_,_,_,_,_,_,h0,_⟩<;>omega
 have nY:ae (bj w5 a5 (m+8+8) (tagged ad ct)):=by unfold tagged;rw[Hll.o,Hlt.o];exact sP
 have wh:ae (Below w.heap.size w w5):=Ci.o.trans (iE.mono Ci.o.size);clear iE EV sP BV Hn4 Ci
 go_wp2_with fail
 refine(zu kb eh nb mj kc nc key aq 0#32 _ C8 uj Hc Qq (HK.o.later wh.o) (HN.o.later wh.o)).mono ?_;rintro e w6 ⟨a6,c6,rfl,lZ,Qy,Sj⟩;obtain⟨b6,o6,rfl,_⟩:=Qy.at_ 0 (by omega);have O6:ae (bj w6 (some ⟨b6,o6,none⟩) 32 ((Fb key 0#32 aq).take 32)):=Qy.cut (by omega);have agI:ae (bj w6 a5 (m+8+8) (tagged ad ct)):=nY.o.later lZ;have G9:ae (Below w.heap.size w w6):=wh.o.trans (lZ.mono wh.o.size);have asb:(32:Int)≤(c6:Int):=by omega
 clear lZ Qy nY wh
 go_wp2_with fail
 refine(MQ b6 o6 c6 _ a5 (m+8+8) c5 _ _ (by omega) O6.o agI.o (by omega) WC).mono ?_;rintro e w7 ⟨g7,rfl,He,yi,yj⟩;have Cn:ae (bj w7 (some ⟨g7,0,none⟩) 16 (jl key aq ad ct)):=yj;have J3:ae (Below w.heap.size w w7):=G9.o.trans (yi.mono G9.o.size);have MM:w.heap.size≤g7:=kx G9.o.size He;clear yj yi O6 agI G9
 go_wp2
 go_ret
 exact⟨g7,rfl,MM,J3.o,Cn.o⟩
theorem Kn (kb eh nb mj kc nc:Nat)(key aq:aO)(a:bW)(la ca:Nat)(ad:aO)(c:bW)(lc cc:Nat)(b:aO)(w:aw)(C8:32≤kc)(uj:12≤nc)(Hc:kc≤9223372036854775807)(Qq:nc≤9223372036854775807)
  (hK:bj w (some ⟨kb,eh,none⟩) 32 key) (hN:bj w (some ⟨nb,mj,none⟩) 12 aq) (hA:bj w a la ad) (Co:a=none→ca=0) (hC:bj w c lc b) (EU:la≤1000) (ig:lc≤1000) (kZ:lc≤cc) (m7:cc≤maxLen):
  Calls prog 90 #[.slice (some ⟨kb,eh,none⟩) 32 kc,.slice (some ⟨nb,mj,none⟩) 12 nc,.slice a la ca,.slice c lc cc] w λe w'=>∃v,e= .returned v∧Below w.heap.size w w'∧w'.ownsRow w.heap.size 5 1 v (lc+16) ((ku key aq ad b).map bv):=by
 have HK:ae (bj w (some ⟨kb,eh,none⟩) 32 key):=hK;have HN:ae (bj w (some ⟨nb,mj,none⟩) 12 aq):=hN;have HA:ae (bj w a la ad):=hA;have HC:ae (bj w c lc b):=hC;clear hK hN hA hC
 go_enter func90,ntmps90
 go_wp2_with fail
 refine(xL kb eh nb mj kc nc key aq 1#32 c lc cc b _ C8 uj Hc Qq HK.o HN.o HC.o (by omega) kZ m7).mono ?_;rintro e w1 ⟨v1,rfl,ck,cH⟩;obtain⟨a1,c1,rfl,pz,_,_,s9⟩:=bq cH;have f8:ae (w1.ownsRow w.heap.size 5 1 (.slice a1 lc c1) lc ((vW key 1#32 aq b).map bv)):=cH;have iG:ae (bj w1 a1 lc (vW key 1#32 aq b)):=pz;have Hn1:ae (a1=none→c1=0):=s9;have fU:ae (Below w.heap.size w w1):=ck;clear cH ck pz s9
 go_wp2_with fail
 refine(Dd kb eh nb mj kc nc key aq a la ca ad a1 lc c1 _ _ C8 uj Hc Qq (HK.o.later fU.o) (HN.o.later fU.o) (HA.o.later fU.o) Co iG.o Hn1.o EU ig).mono ?_;rintro e w2 ⟨g2,rfl,kj,cM,rN⟩;have De:=f8.o.kept (cG cM) (by
  rcases h:Value.ownBlock (.slice a1 lc c1) with _|j
  ·exact .inl rfl
  ·exact .inr (by simp))
 have vG:Below w.heap.size w w2:=fU.o.trans (cM.mono fU.o.size);obtain⟨v3,w3,iu,dt,uu⟩:=cI w2 w.heap.size _ lc _ De ⟨g2,0,none⟩ 16 16 _ rN vG.size (by omega);have py:ae (_):=iu;have rO:ae (w3.ownsRow w.heap.size 5 1 v3 (lc+16) ((ku key aq ad b).map bv)):=dt;have pI:ae (Below w.heap.size w w3):=vG.grown uu vG.size (λk hk=>(De.lt k hk).1);clear iu dt uu De vG cM rN f8 iG Hn1 fU
 go_wp2_with (at_builtin;refine ao rfl (.tmp 14) (.tmp 19) 22 rfl _ _ _ _ rfl rfl py.o ?_)
 go_ret
 exact⟨_,rfl,pI.o,rO.o⟩
end Go.Proofs.YtkdpblbhcfhagaaGreatDoor
