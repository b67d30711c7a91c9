import Derived.Test.YtkdpblbhcfhagaaGreatDoorQar
namespace Go.Proofs.YtkdpblbhcfhagaaGreatDoor
open Go.Proofs.Tryz
open _root_.Nat renaming le_refl → di, le_trans → kx, lt_of_lt_of_le → tV
open Go.RowKit.Below renaming refl → bZ, heap_alloc → jE
open Go.World renaming size_alloc → fx
open _root_.Array renaming getElem?_eq_some_iff → gD
open Go renaming undef → ag, World → aw, heap_alloc_new → eC
open _root_.List renaming replicate → cz, not_mem_nil → nj, mem_cons → mg, take_of_length_le → su
open Go.Exit renaming inBlock → nu
set_option maxHeartbeats 64000000
set_option linter.unusedVariables false
set_option maxRecDepth 100000
open Go.RowKit
structure gG (w:aw)(a:bW)(n cap x:Nat):Prop where
 ints:cN w a n (fR x)
 cap:n≤cap
theorem gG.later {w w':aw}{a:bW}{n cap x:Nat}(h:gG w a n cap x)(hb:Below w.heap.size w w'):gG w' a n cap x:=⟨h.ints.later hb,h.cap⟩
theorem gG.len {w:aw}{a:bW}{n cap x k:Nat}(h:gG w a n cap x)(hx:x<256^k):n≤k:=by rw[←h.ints.1];exact dy x k hx
theorem rX (a:bW)(n cap x:Nat)(w:aw)(hD:gG w a n cap x)(hn:n≤5000):
  Calls prog 110 #[.slice a n cap] w λe w'=>∃a' n' cK,e= .returned (.slice a' n' cK)∧Below w.heap.size w w'∧gG w' a' n' cK (x % bJ):=by
 have HD:ae (gG w a n cap x):=hD;clear hD
 go_enter func110,ntmps110
 go_wp2_with fail
 refine(C' a n cap (fR x) 31 7 19 w HD.o.ints (gJ x) HD.o.cap hn (by omega) (by omega) (by omega) (by omega) (by omega)).mono ?_;rintro e w' ⟨a',n',c',rfl,hb,hI,hc⟩;rw[dO,show 2^(8*31+7)-19=bJ from Xk.symm] at hI;have HI:ae (gG w' a' n' c' (x % bJ)):=⟨hI,hc⟩;have HB:ae (Below w.heap.size w w'):=hb;clear hI hb
 go_wp2
 go_ret
 exact⟨a',n',c',rfl,HB.o,HI.o⟩
theorem Iw (a:bW)(cap:Nat)(l:aO)(w:aw)(hB:bj w a 32 l):
  Calls prog 84 #[.slice a 32 cap] w λe w'=>∃a' n' cK,e= .returned (.slice a' n' cK)∧Below w.heap.size w w'∧gG w' a' n' cK (fc l % 2^255 % bJ):=by
 have Rm:ae (bj w a 32 l):=hB;have hNb:=jD l;rw[hB.1] at hNb;clear hB
 go_enter func84,ntmps84
 go_wp2_with fail
 refine(oG a 32 cap l w Rm.o (by omega)).mono ?_;rintro e w1 ⟨a1,n1,c1,rfl,ck,I',gi⟩;have ru:ae (gG w1 a1 n1 c1 (fc l)):=⟨I',gi⟩;have s9:n1≤32:=ru.o.len hNb;have iG:ae (Below w.heap.size w w1):=ck;clear ck I'
 go_wp2_with fail
 refine(pN a1 n1 c1 (fR (fc l)) 31 7 w1 ru.o.ints (gJ _) (by omega) (by omega) (by omega)).mono ?_;rintro e w2 ⟨a2,n2,c2,a3,n3,c3,rfl,cM,tq,jM,Jb,tr⟩;rw[dO] at tq;have Pr:ae (gG w2 a2 n2 c2 (fc l % 2^255)):=⟨tq,jM⟩;have tL:n2≤32:=Pr.o.len (Nat.lt_of_le_of_lt (Nat.mod_le _ _) hNb);have sO:ae (Below w.heap.size w w2):=iG.o.trans (cM.mono iG.o.size);clear cM tq Jb ru iG
 go_wp2_with fail
 refine(rX a2 n2 c2 _ w2 Pr.o (by omega)).mono ?_;rintro e w3 ⟨a4,n4,c4,rfl,js,PF⟩;have BV:ae (Below w.heap.size w w3):=sO.o.trans (js.mono sO.o.size);have zB:ae _:=PF;clear PF js
 go_wp2
 go_ret
 exact⟨a4,n4,c4,rfl,BV.o,zB.o⟩
theorem FD (a:bW)(n cap x:Nat)(w:aw)(hD:gG w a n cap x)(hn:n≤5000):
  Calls prog 86 #[.slice a n cap] w λe w'=>∃g,e= .returned (.slice (some ⟨g,0,none⟩) 32 32)∧w.heap.size≤g∧Below w.heap.size w w'∧bj w' (some ⟨g,0,none⟩) 32 (zA 32 x):=by
 have HD:ae (gG w a n cap x):=hD;clear hD
 go_enter func86,ntmps86
 go_wp2_with fail
 refine(zC a n cap 32 x w HD.o.ints (by omega) (by omega)).mono ?_;rintro e w' ⟨g,rfl,hg,hb,hB⟩;have H:ae (w.heap.size≤g∧Below w.heap.size w w'∧bj w' (some ⟨g,0,none⟩) 32 (zA 32 x)):=⟨hg,hb,hB⟩;clear hg hb hB
 go_wp2
 go_ret
 exact⟨g,rfl,H.o⟩
theorem oY (a:bW)(n cap x:Nat)(b:bW)(m fT y:Nat)(w:aw)(hA:gG w a n cap x)(hB:gG w b m fT y)(hx:x<256^33)(hy:y<256^33):
  Calls prog 111 #[.slice a n cap,.slice b m fT] w λe w'=>∃a' n' cK,e= .returned (.slice a' n' cK)∧Below w.heap.size w w'∧gG w' a' n' cK ((x+y) % bJ):=by
 have HA:ae (gG w a n cap x):=hA;have HB:ae (gG w b m fT y):=hB;have hn:=hA.len hx;have hm:=hB.len hy;clear hA hB
 go_enter func111,ntmps111
 go_wp2_with fail
 refine(mO a n cap (fR x) b m fT (fR y) w HA.o.ints HB.o.ints (gJ x) (gJ y) (by omega) (by omega)).mono ?_;rintro e w1 ⟨a1,n1,c1,rfl,ck,I',gi⟩;rw[dO,dO] at I';have ru:ae (gG w1 a1 n1 c1 (x+y)):=⟨I',gi⟩;have s9:n1≤34:=ru.o.len (by have:(256:Nat)^34=256^33*256:=Nat.pow_succ 256 33;omega);have iG:ae (Below w.heap.size w w1):=ck;clear ck I'
 go_wp2_with fail
 refine(rX a1 n1 c1 _ w1 ru.o (by omega)).mono ?_;rintro e w3 ⟨a4,n4,c4,rfl,js,PF⟩;have BV:ae (Below w.heap.size w w3):=iG.o.trans (js.mono iG.o.size);have zB:ae _:=PF;clear PF js
 go_wp2
 go_ret
 exact⟨a4,n4,c4,rfl,BV.o,zB.o⟩
theorem eW (a:bW)(n cap x:Nat)(b:bW)(m fT y:Nat)(w:aw)(hA:gG w a n cap x)(hB:gG w b m fT y)(hx:x<256^33)(hy:y<256^33):
  Calls prog 87 #[.slice a n cap,.slice b m fT] w λe w'=>∃a' n' cK,e= .returned (.slice a' n' cK)∧Below w.heap.size w w'∧gG w' a' n' cK (x*y % bJ):=by
 have HA:ae (gG w a n cap x):=hA;have HB:ae (gG w b m fT y):=hB;have hn:=hA.len hx;have hm:=hB.len hy;clear hA hB
 go_enter func87,ntmps87
 go_wp2_with fail
 refine(uz a n cap (fR x) b m fT (fR y) w HA.o.ints HB.o.ints (gJ x) (gJ y) (by omega) (by omega)).mono ?_;rintro e w1 ⟨a1,n1,c1,rfl,ck,I',gi⟩;rw[dO,dO] at I';have ru:ae (gG w1 a1 n1 c1 (x*y)):=⟨I',gi⟩;have s9:n1≤66:=ru.o.len (by have:(256:Nat)^66=256^33*256^33:=Nat.pow_add 256 33 33;rw[this];exact Nat.mul_lt_mul_of_lt_of_le hx (Nat.le_of_lt hy) (Nat.pow_pos (by decide)));have iG:ae (Below w.heap.size w w1):=ck;clear ck I'
 go_wp2_with fail
 refine(rX a1 n1 c1 _ w1 ru.o (by omega)).mono ?_;rintro e w3 ⟨a4,n4,c4,rfl,js,PF⟩;have BV:ae (Below w.heap.size w w3):=iG.o.trans (js.mono iG.o.size);have zB:ae _:=PF;clear PF js
 go_wp2
 go_ret
 exact⟨a4,n4,c4,rfl,BV.o,zB.o⟩
theorem Zu (k:Nat)(h:1≤k):pD k++[255]=pD (k+1):=by rw[pD,pD,show k+1-1=(k-1)+1 by omega,List.replicate_succ'];rfl
theorem GH (w:aw):
  Calls prog 115 #[] w λe w'=>∃v,e= .returned v∧Below w.heap.size w w'∧w'.ownsRow w.heap.size 3 1 v 32 (Wr.map iv):=by
 have tj:(w.alloc (.cells #[.int .i64 237] 3)).ownsRow w.heap.size 3 1 (.slice (some ⟨w.heap.size,0,none⟩) 1 1) 1 ((pD 1).map iv):=World.ownsRow_lit w _ 1 (di _) (by unfold maxLen;omega) rfl;have yO:ae ((w.alloc (.cells #[.int .i64 237] 3)).ownsRow w.heap.size 3 1 (.slice (some ⟨w.heap.size,0,none⟩) 1 1) 1 ((pD 1).map iv)):=tj;clear tj
 go_enter func115,ntmps115
 go_wp2
 go_loopw [1,2] (λv i wr=>∃k:Nat,1≤k∧k≤31∧i= .int .i64 k∧ae (wr.ownsRow w.heap.size 3 1 v k ((pD k).map iv))∧ae (Below w.heap.size w wr)) (λ_ i _=>31-(intOf i).toNat)
 case atStart=>exact⟨1,by omega,by omega,rfl,yO,(bZ _ _).alloc (di _) _⟩
 case round=>
  clear yO;obtain⟨k,WB,hk,rfl,hO,hW⟩:=hrel
  by_cases dN:k<31
  ·have sM:(k:Int)<31:=by omega
   obtain⟨v2,w2,jS,cZ,kj⟩:=jt wr w.heap.size _ k _ hO.out 255 hW.out.size (by omega);have gM:ae (_):=jS;have nW:ae (w2.ownsRow w.heap.size 3 1 v2 (k+1) ((pD (k+1)).map iv)):=by rw[←Zu k WB];exact cZ
   have fw:ae (Below w.heap.size w w2):=hW.out.grown kj hW.out.size (λj hj=>(hO.out.lt j hj).1);clear jS cZ kj hO hW
   go_wp2_with (at_builtin;refine ao rfl (.tmp 8) (.tmp 9) 118 rfl _ _ _ _ rfl rfl gM.o ?_)
   exact⟨⟨k+1,by omega,by omega,by go_num,nW,fw⟩,by simp[intOf];omega⟩
  ·have ek:k=31:=by omega
   have sM:¬(k:Int)<31:=by omega
   obtain⟨v2,w2,jS,cZ,kj⟩:=jt wr w.heap.size _ k _ hO.out 127 hW.out.size (by omega);have gM:ae (_):=jS;have nW:ae (w2.ownsRow w.heap.size 3 1 v2 32 (Wr.map iv)):=by rw[Wr];rw[ek] at cZ;exact cZ
   have fw:ae (Below w.heap.size w w2):=hW.out.grown kj hW.out.size (λj hj=>(hO.out.lt j hj).1);clear jS cZ kj hO hW
   go_wp2_with (at_builtin;refine ao rfl (.tmp 11) (.tmp 12) 118 rfl _ _ _ _ rfl rfl gM.o ?_)
   go_ret
   exact⟨v2,rfl,fw.o,nW.o⟩
structure NG (w:aw)(x:Nat)(a:bW)(n cap:Nat)(pg pc B i b:Nat)(v:Value)(o:List Nat)(W:aw):Prop where
 p:cN W (some ⟨pg,0,none⟩) 32 Wr
 num:gG W a n cap x
 own:W.ownsRow B 3 1 v i (o.map iv)
 pb:pg<B
 ab:w.heap.size≤B
 bs:B≤W.heap.size
 neg:Neg x i b o
 aY:Below w.heap.size w W
theorem cN.grown {w w':aw}{B:Nat}{a:bW}{n:Nat}{l:List Nat}(h:cN w a n l)(hb:0<n→∀j,bL a=some j→j<B)(hg:∀j,j<B→w'.heap[j]?=w.heap[j]?):cN w' a n l:=by
 refine⟨h.1,?_⟩
 rcases h.2 with h0|⟨b,off,rfl,hc⟩
 ·exact .inl h0
 ·refine .inr ⟨b,off,rfl,λi hi=>?_⟩;rw[World.cell?_of_block (w:=w) (hg b (hb (by omega) b rfl))];exact hc i hi
theorem NG.app {w W w2:aw}{x:Nat}{a:bW}{n cap pg pc B i b i' b':Nat}{v v2:Value}{o o':List Nat}(t:NG w x a n cap pg pc B i b v o W)(Fm:0<n→∀j,bL a=some j→j<w.heap.size)(ho:w2.ownsRow B 3 1 v2 i' (o'.map iv))(hg:W.grownBy w2 v.ownBlock)(hn:Neg x i' b' o'):NG w x a n cap pg pc B i' b' v2 o' w2:=by have hbs:=t.bs;have ah8:=t.ab;have ff:=t.own.lt;have hk:∀j,j<B→w2.heap[j]?=W.heap[j]?:=λj hj=>hg.block j (by omega) (λe=>by have:=(ff j e.symm).1;omega);exact⟨t.p.grown (B:=B) (λ_ j hj=>by have:=t.pb;simp[bL] at hj;omega) hk,⟨t.num.ints.grown (B:=B) (λh0 j hj=>by have:=Fm h0 j hj;omega) hk,t.num.cap⟩,ho,t.pb,t.ab,by have:=hg.size;omega,hn,t.aY.grown hg (by omega) (λk hk=>by have:=(ff k hk).1;omega)⟩
theorem cN.Fb {w:aw}{a:bW}{n:Nat}{l:List Nat}(h:cN w a n l)(hn:0<n):∀j,bL a=some j→j<w.heap.size:=by
 intro j hj
 rcases h.2 with h0|⟨b,off,rfl,hc⟩
 ·omega
 ·have hb:b<w.heap.size:=World.block_lt_of_cell? w _ (hc 0 hn);simp[bL] at hj;omega
theorem Lx (a:bW)(n cap x:Nat)(w:aw)(hD:gG w a n cap x)(hx:x≤bJ):
  Calls prog 134 #[.slice a n cap] w λe w'=>∃a' n' cK,e= .returned (.slice a' n' cK)∧Below w.heap.size w w'∧gG w' a' n' cK ((bJ-x) % bJ):=by
 have HD:ae (gG w a n cap x):=hD;have aut:n≤32:=hD.len (Nat.lt_of_le_of_lt hx zj);have Fm:0<n→∀j,bL a=some j→j<w.heap.size:=λh0=>hD.ints.Fb h0;clear hD
 go_enter func134,ntmps134
 go_wp2_with fail
 refine(GH w).mono ?_;rintro e w1 ⟨v1,rfl,ck,xV⟩;obtain⟨pg,pc,rfl,hpg,jF⟩:=dJ.jT xV (by omega);have tN:=jF.lt pg rfl;have E4:ae (NG w x a n cap pg pc w1.heap.size 0 0 (.slice (some ⟨w1.heap.size,0,none⟩) 0 0) [] (w1.alloc (.cells #[] 3))):=
  ⟨(cN.gS jF).later eF,(HD.o.later ck).later eF,World.ownsRow_made w1 #[] 0 (di _) (Nat.zero_le _) rfl,tN,ck.size,by simp,Neg.zero x,ck.alloc ck.size _⟩
 clear xV jF ck
 go_wp2
 generalize w1.heap.size=B at E4 tN⊢
 go_loopw [4,5,6] (λv c i wr=>∃(k b:Nat) (o:List Nat) (v':Value),k≤32∧i= .int .i64 k∧c= .int .i64 (b:Int)∧v'=v∧ae (NG w x a n cap pg pc B k b v' o wr)) (λ_ _ i _=>32-(intOf i).toNat)
 case atStart=>exact⟨0,0,[],_,by omega,rfl,rfl,rfl,E4⟩
 case round=>
  clear E4;obtain⟨i,b,o,v,hi,rfl,rfl,hv,hN⟩:=hrel;subst hv
  by_cases aiG:i<32
  ·have hii:(i:Int)<32:=by omega
   have ck:=hN.out.neg.bl;obtain⟨_,_,e1,gi⟩:=hN.out.p.at_ i aiG;cases e1
   rw[Nat.zero_add] at gi;obtain⟨q,hq⟩:=aW (cf Wr i);have Kl:q=bJ/256^i % 256:=by rw[←hq];exact abe i
   have hqb:q<256:=by rw[Kl];exact Nat.mod_lt _ (by decide)
   rw[hq] at gi
   by_cases hin:i<n
   ·have anw:(i:Int)<(n:Int):=by omega
    obtain⟨ab,aiH,rfl,jM⟩:=hN.out.num.ints.at_ i hin;obtain⟨u,hu⟩:=aW (cf (fR x) i);have hxu:u=x/256^i % 256:=by rw[←hu];exact Mg x i
    have hub:u<256:=by rw[hxu];exact Nat.mod_lt _ (by decide)
    rw[hu] at jM;have HXU:ae (u=x/256^i % 256):=hxu;have HPQ:ae (q=bJ/256^i % 256):=Kl;clear hxu Kl hu hq
    by_cases anx:(q:Int)-(b:Int)-(u:Int)<0
    ·obtain⟨d,hd⟩:∃d:Nat,(q:Int)-(b:Int)-(u:Int)+256=(d:Int):=⟨((q:Int)-(b:Int)-(u:Int)+256).toNat,by omega⟩;obtain⟨v2,w2,jS,cZ,kj⟩:=jt wr B _ i _ hN.out.own d hN.out.bs (by omega);have gM:ae ((Builtin.append_ #[118,118] 118 #[v,.slice (some ⟨wr.heap.size,0,none⟩) 1 1]).run prog (wr.alloc (.cells #[.int .i64 (d:Int)] 3))= .ok v2 w2):=jS;have yl:ae (NG w x (some ⟨ab,aiH,none⟩) n cap pg pc B (i+1) 1 v2 (o++[d]) w2):=hN.out.app Fm cZ kj (hN.out.neg.next d 1 (by omega) (by omega) (by rw[←HXU.o,←HPQ.o];omega));clear jS cZ kj hN
     go_wp2_with (at_builtin;refine ao rfl (.tmp 34) (.tmp 36) 118 rfl _ _ _ _ rfl rfl gM.o ?_)
     exact⟨⟨i+1,1,o++[d],v2,by omega,by go_num,rfl,rfl,yl⟩,by simp[intOf];omega⟩
    ·obtain⟨d,hd⟩:∃d:Nat,(q:Int)-(b:Int)-(u:Int)=(d:Int):=⟨((q:Int)-(b:Int)-(u:Int)).toNat,by omega⟩;obtain⟨v2,w2,jS,cZ,kj⟩:=jt wr B _ i _ hN.out.own d hN.out.bs (by omega);have gM:ae ((Builtin.append_ #[118,118] 118 #[v,.slice (some ⟨wr.heap.size,0,none⟩) 1 1]).run prog (wr.alloc (.cells #[.int .i64 (d:Int)] 3))= .ok v2 w2):=jS;have yl:ae (NG w x (some ⟨ab,aiH,none⟩) n cap pg pc B (i+1) 0 v2 (o++[d]) w2):=hN.out.app Fm cZ kj (hN.out.neg.next d 0 (by omega) (by omega) (by rw[←HXU.o,←HPQ.o];omega));clear jS cZ kj hN
     go_wp2_with (at_builtin;refine ao rfl (.tmp 34) (.tmp 36) 118 rfl _ _ _ _ rfl rfl gM.o ?_)
     exact⟨⟨i+1,0,o++[d],v2,by omega,by go_num,rfl,rfl,yl⟩,by simp[intOf];omega⟩
   ·have anw:¬(i:Int)<(n:Int):=by omega
    obtain⟨u,Xu⟩:∃u,u=0:=⟨_,rfl⟩;have hxu:u=x/256^i % 256:=by rw[Xu,←Mg x i,t8 _ _ (by rw[hN.out.num.ints.1];omega)]
    have HXU:ae (u=x/256^i % 256):=hxu;have HPQ:ae (q=bJ/256^i % 256):=Kl;clear hxu Kl hq
    by_cases anx:(q:Int)-(b:Int)<0
    ·obtain⟨d,hd⟩:∃d:Nat,(q:Int)-(b:Int)+256=(d:Int):=⟨((q:Int)-(b:Int)+256).toNat,by omega⟩;obtain⟨v2,w2,jS,cZ,kj⟩:=jt wr B _ i _ hN.out.own d hN.out.bs (by omega);have gM:ae ((Builtin.append_ #[118,118] 118 #[v,.slice (some ⟨wr.heap.size,0,none⟩) 1 1]).run prog (wr.alloc (.cells #[.int .i64 (d:Int)] 3))= .ok v2 w2):=jS;have yl:ae (NG w x a n cap pg pc B (i+1) 1 v2 (o++[d]) w2):=hN.out.app Fm cZ kj (hN.out.neg.next d 1 (by omega) (by omega) (by rw[←HXU.o,←HPQ.o];omega));clear jS cZ kj hN
     go_wp2_with (at_builtin;refine ao rfl (.tmp 34) (.tmp 36) 118 rfl _ _ _ _ rfl rfl gM.o ?_)
     exact⟨⟨i+1,1,o++[d],v2,by omega,by go_num,rfl,rfl,yl⟩,by simp[intOf];omega⟩
    ·obtain⟨d,hd⟩:∃d:Nat,(q:Int)-(b:Int)=(d:Int):=⟨((q:Int)-(b:Int)).toNat,by omega⟩;obtain⟨v2,w2,jS,cZ,kj⟩:=jt wr B _ i _ hN.out.own d hN.out.bs (by omega);have gM:ae ((Builtin.append_ #[118,118] 118 #[v,.slice (some ⟨wr.heap.size,0,none⟩) 1 1]).run prog (wr.alloc (.cells #[.int .i64 (d:Int)] 3))= .ok v2 w2):=jS;have yl:ae (NG w x a n cap pg pc B (i+1) 0 v2 (o++[d]) w2):=hN.out.app Fm cZ kj (hN.out.neg.next d 0 (by omega) (by omega) (by rw[←HXU.o,←HPQ.o];omega));clear jS cZ kj hN
     go_wp2_with (at_builtin;refine ao rfl (.tmp 34) (.tmp 36) 118 rfl _ _ _ _ rfl rfl gM.o ?_)
     exact⟨⟨i+1,0,o++[d],v2,by omega,by go_num,rfl,rfl,yl⟩,by simp[intOf];omega⟩
  ·have ei:i=32:=by omega
   have hii:¬(i:Int)<32:=by omega
   obtain⟨a2,c2,rfl,tq,jM,nO⟩:=C9 hN.out.own;have hng:=hN.out.neg;rw[ei] at hng;have hval:=hng.done hx;have uy:ae (cN wr a2 i o):=tq;have ux:ae (∀y∈o,y≤2^50):=λy hy=>by have h1:=hng.lt y hy;exact kx (Nat.le_of_lt h1) (show(256:Nat)≤2^50 from by decide)
   have fw:ae (Below w.heap.size w wr):=hN.out.aY;clear hN tq hng ei aiG
   go_wp2_with fail
   refine(uw a2 i c2 o wr uy.o ux.o jM (by omega)).mono ?_;rintro e w3 ⟨a3,n3,c3,rfl,eZ,Jb,tr⟩;rw[hval] at Jb;have HD3:ae (gG w3 a3 n3 c3 (bJ-x)):=⟨Jb,tr⟩;have CZ:n3≤32:=HD3.o.len (Nat.lt_of_le_of_lt (Nat.sub_le _ _) zj);have pI:ae (Below w.heap.size w w3):=fw.o.trans (eZ.mono fw.o.size);clear Jb eZ fw uy ux hval
   go_wp2_with fail
   refine(rX a3 n3 c3 _ w3 HD3.o (by omega)).mono ?_;rintro e w4 ⟨a4,n4,c4,rfl,js,PF⟩;have BV:ae (Below w.heap.size w w4):=pI.o.trans (js.mono pI.o.size);have zB:ae _:=PF;clear PF js
   go_wp2
   go_ret
   exact⟨a4,n4,c4,rfl,BV.o,zB.o⟩
structure IV (w:aw)(x:Nat)(a:bW)(n cap:Nat)(g c:Nat)(b:bW)(m d j:Nat)(W:aw):Prop where
 e:cN W (some ⟨g,0,none⟩) 32 eDs
 num:gG W a n cap x
 pow:gG W b m d (x^(ui/2^j) % bJ)
 aY:Below w.heap.size w W
theorem IV.later {w W W':aw}{x:Nat}{a:bW}{n cap g c:Nat}{b b':bW}{m d j m' d' j':Nat}(t:IV w x a n cap g c b m d j W)(hb:Below W.heap.size W W')(hp:gG W' b' m' d' (x^(ui/2^j') % bJ)):IV w x a n cap g c b' m' d' j' W':=
 ⟨t.e.later hb,t.num.later hb,hp,t.aY.trans (hb.mono t.aY.size)⟩
theorem aaV (r:Nat)(h:r<256):bits .and .i64 (r:Int) 1=((r % 2:Nat):Int):=by
 have e:(BitVec.ofInt 64 (r:Int)&&&BitVec.ofInt 64 1).toNat=r % 2:=by
  rw[BitVec.toNat_and,BitVec.toNat_ofInt];have h7:(BitVec.ofInt 64 1).toNat=2^1-1:=by decide
  rw[h7,Nat.and_two_pow_sub_one_eq_mod];omega
 show IntKind.i64.wrap ((BitVec.ofInt 64 (r:Int)&&&BitVec.ofInt 64 1).toNat:Int)=_;rw[e,IntKind.wrap_i64];omega
theorem PG:fR 1=[1]:=by rw[rE 1 (by decide)];simp[jw]
theorem wW (y:Nat):y % bJ<256^33:=Nat.lt_trans (Nat.mod_lt _ qk) (by decide)
theorem Lz (a:bW)(n cap x:Nat)(w:aw)(hD:gG w a n cap x)(hx:x<bJ):
  Calls prog 88 #[.slice a n cap] w λe w'=>∃a' n' cK,e= .returned (.slice a' n' cK)∧Below w.heap.size w w'∧gG w' a' n' cK (x^ui % bJ):=by
 have HD:ae (gG w a n cap x):=hD;have anz:x<256^33:=Nat.lt_trans hx (by decide);clear hD
 go_enter func88,ntmps88
 go_wp2_with fail
 refine(GH w).mono ?_;rintro e w1 ⟨v1,rfl,ck,xV⟩;obtain⟨g,c,rfl,uB,jF⟩:=dJ.jT xV (by omega);obtain⟨_,_,e1,cc,fr⟩:=jF.cell 0 (by omega);cases e1
 have cc':w1.cell? ⟨g,0,none⟩=some (.int .i64 237):=cc;have iJ:=jF.set 0 (by omega) (.int .i64 235);have NA:dJ (w1.setCell ⟨g,0,none⟩ (.int .i64 235)) 3 (some ⟨g,0,none⟩) 32 c (eDs.map iv):=iJ;have LA:Below w.heap.size w (w1.setCell ⟨g,0,none⟩ (.int .i64 235)):=ck.setCell uB _;obtain⟨W2,fV⟩:=aW (w1.setCell ⟨g,0,none⟩ (.int .i64 235));rw[fV] at NA LA;have iz:Below W2.heap.size W2 (W2.alloc (.cells #[.int .i64 1] 3)):=eF;have h1P:1 % bJ=1:=by decide
 have jH:W2.heap.size=w1.heap.size:=by rw[←fV];simp
 have XX:ae (IV w x a n cap g c (some ⟨w1.heap.size,0,none⟩) 1 1 255 (W2.alloc (.cells #[.int .i64 1] 3))):=by rw[←jH];refine⟨(cN.gS NA).later iz,(HD.o.later LA).later iz,⟨?_,di _⟩,LA.trans (iz.mono LA.size)⟩;rw[SU,Nat.pow_zero,h1P,PG];exact zy W2 1
 have fr':w1.frozen? ⟨g,0,none⟩=false:=fr;rw[←fV] at XX;clear jF iJ NA xV ck LA iz jH fV cc fr h1P
 go_wp2
 clear cc' fr'
 go_loopw [4,5] (λv i wr=>∃(j:Nat) (b:bW) (m d:Nat),j≤255∧i= .int .i64 ((j:Int)-1)∧v= .slice b m d∧ae (IV w x a n cap g c b m d j wr)) (λ_ i _=>(intOf i+1).toNat)
 case atStart=>exact⟨255,_,_,_,by omega,rfl,rfl,XX⟩
 case round=>
  clear XX;obtain⟨j,b,m,d,hj,rfl,rfl,hI⟩:=hrel;obtain⟨y,hy⟩:=aW (x^(ui/2^j) % bJ);have hyb:y<256^33:=by rw[←hy];exact wW _
  by_cases hj0:0<j
  ·obtain⟨i,rfl⟩:∃i,j=i+1:=⟨j-1,by omega⟩;have ei:(((i+1:Nat):Int))-1=(i:Int):=by omega
   rw[ei];have hi0:0≤(i:Int):=by omega
   have Ol:=hI.out.pow;rw[hy] at Ol;have HP:ae (gG wr b m d y):=Ol;clear Ol
   go_wp2_with fail
   refine(eW b m d y b m d y wr HP.o HP.o hyb hyb).mono ?_;rintro e w3 ⟨b3,m3,d3,rfl,eZ,Ps⟩;obtain⟨z,hz⟩:=aW (y*y % bJ);have hzb:z<256^33:=by rw[←hz];exact wW _
   rw[hz] at Ps;obtain⟨q,hq⟩:=aW (i/8);obtain⟨s,hs⟩:=aW (i % 8);obtain⟨_,_,e1,kt⟩:=(hI.out.e.later eZ).at_ q (by omega);cases e1
   rw[Nat.zero_add] at kt;obtain⟨t,ht⟩:=aW (cf eDs q);rw[ht] at kt;have htv:t/2^s % 2=ui/2^i % 2:=by rw[←ht,SR,FO _ _ _ (by omega),←hq,←hs,Nat.div_add_mod]
   have htb:t<256:=by rw[←ht,SR];exact Nat.mod_lt _ (by decide)
   have ky:=SW x ui i bJ;rw[hy,hz,←htv] at ky;have e2:(i:Int).tdiv 8=(q:Int):=by rw[Int.tdiv_eq_ediv_of_nonneg (by omega)];omega
   have Sl:(i:Int)/8=(q:Int):=by omega
   have e3:(i:Int).tmod 8=(s:Int):=by rw[Int.tmod_eq_emod_of_nonneg (by omega)];omega
   have e3':(i:Int) % 8=(s:Int):=by omega
   have adA:(q:Int)<32:=by omega
   have jm:s<8:=by omega
   obtain⟨r,hr⟩:=aW (t/2^s);have er:(t:Int)/2^s=(r:Int):=by rw[←hr];simp
   have hrb:r<256:=by rw[←hr];exact Nat.lt_of_le_of_lt (Nat.div_le_self _ _) htb
   rw[hr] at ky;have Fi:ae (IV w x a n cap g c b m d (i+1) w3):=hI.out.later eZ (by rw[hy];exact HP.o.later eZ);have HD3:ae (gG w3 b3 m3 d3 z):=Ps;clear hI HP eZ Ps hy hz hq hs ht htv hr
   by_cases zV:r % 2=1
   ·have hbi:bits .and .i64 (r:Int) 1=1:=by rw[aaV r hrb,zV];rfl
    rw[if_pos zV] at ky
    go_wp2_with fail
    refine(eW b3 m3 d3 z a n cap x w3 HD3.o Fi.o.num hzb anz).mono ?_;rintro e w4 ⟨b4,m4,d4,rfl,js,PF⟩;have X4:ae (IV w x a n cap g c b4 m4 d4 i w4):=Fi.o.later js (by rw[ky];exact PF);clear ky js PF Fi HD3
    go_wp2
    exact⟨⟨i,b4,m4,d4,by omega,rfl,rfl,X4⟩,by simp[intOf]⟩
   ·have hbi:bits .and .i64 (r:Int) 1=0:=by rw[aaV r hrb,show r % 2=0 by omega];rfl
    rw[if_neg zV] at ky;have X4:ae (IV w x a n cap g c b3 m3 d3 i w3):=Fi.o.later (bZ _ _) (by rw[ky];exact HD3.o);clear ky Fi HD3
    go_wp2
    exact⟨⟨i,b3,m3,d3,by omega,rfl,rfl,X4⟩,by simp[intOf]⟩
  ·have ej:j=0:=by omega
   subst ej;have Ol:=hI.out.pow;rw[Nat.pow_zero,Nat.div_one] at Ol;have HP:ae (gG wr b m d (x^ui % bJ)):=Ol;have HW:ae (Below w.heap.size w wr):=hI.out.aY;clear hI Ol hy hyb
   go_wp2
   go_ret
   exact⟨b,m,d,rfl,HW.o,HP.o⟩
theorem lW {x:Nat}(h:x<bJ):x<256^33:=Nat.lt_trans h (by decide)
theorem uR (a:bW)(n cap x:Nat)(b:bW)(m fT y:Nat)(w:aw)(hA:gG w a n cap x)(hB:gG w b m fT y)(hx:x<bJ)(hy:y<bJ):
  Calls prog 112 #[.slice a n cap,.slice b m fT] w λe w'=>∃a' n' cK,e= .returned (.slice a' n' cK)∧Below w.heap.size w w'∧gG w' a' n' cK (fS x y):=by
 have HA:ae (gG w a n cap x):=hA;have HB:ae (gG w b m fT y):=hB;clear hA hB
 go_enter func112,ntmps112
 go_wp2_with fail
 refine(Lx b m fT y w HB.o (Nat.le_of_lt hy)).mono ?_;rintro e w1 ⟨a1,n1,q1,rfl,ck,rb⟩;have ru:ae (gG w1 a1 n1 q1 ((bJ-y) % bJ)):=rb;have jC:ae (gG w1 a n cap x):=HA.o.later ck;have fU:ae (Below w.heap.size w w1):=ck;clear ck rb
 go_wp2_with fail
 refine(oY a n cap x a1 n1 q1 ((bJ-y) % bJ) w1 jC.o ru.o (lW hx) (wW _)).mono ?_;rintro e w2 ⟨a2,n2,q2,rfl,cM,xi⟩;rw[Nat.add_mod_mod] at xi;have Pr:ae (gG w2 a2 n2 q2 (fS x y)):=xi;have fw:ae (Below w.heap.size w w2):=fU.o.trans (cM.mono fU.o.size);clear cM xi
 go_wp2
 go_ret
 exact⟨a2,n2,q2,rfl,fw.o,Pr.o⟩
theorem EF:fR 121665=[65,219,1]:=by rw[rE 121665 (by decide),rE (121665/256) (by decide),rE (121665/256/256) (by decide)];simp[jw]
theorem LC {P:Program}{fn:Func}{p q:Tmp}{ty:TypeId}(h:fn.results= #[.cell p ty,.cell q ty])(tmps:Array Value)(w:aw)(g1 g2:Nat)(t:TypeId)(A B:Array Value)(d:TypeDesc)
  (hp:tmps.getD p ag= .pointer (some ⟨g1,0,none⟩)) (hq:tmps.getD q ag= .pointer (some ⟨g2,0,none⟩))
  (h1:w.heap[g1]?=some (.cells A t (0,0))) (h2:w.heap[g2]?=some (.cells B t (0,0)))
  (hu:P.underlying ty=some d) (hd:(match d with| .struct _| .array _ _=>true|_=>false)=true) (hA:(P.info? ty).map (·.size)=some A.size) (hB:(P.info? ty).map (·.size)=some B.size):
  (results fn tmps).run P w= .ok (.tuple #[.agg A,.agg B]) w:=by
 have ND:tmps[p]?.getD ag= .pointer (some ⟨g1,0,none⟩):=by simpa using hp
 have NF:tmps[q]?.getD ag= .pointer (some ⟨g2,0,none⟩):=by simpa using hq
 simp[results,h,ND,NF,asAddr,run_loadVar_row w g1 t ty A (0,0) d h1 hu hd hA,run_loadVar_row w g2 t ty B (0,0) d h2 hu hd hB]
def tJ (W:aw)(g:Nat)(v1 v2:Value):Prop:=W.heap[g]?=some (.cells #[v1,v2] 121 (0,0))
theorem aav {a b:Value}:ae ((prog.info? 121).map (·.size)=some (#[a,b]:Array Value).size):=by show _=_;kernel_rfl
theorem aaO {a b:bW}{n q m r:Nat}:ae ((#[.slice a n q,.slice b m r]:Array Value).all (·.oneCell')=true):=by show _=_;simp[Value.oneCell']
theorem tJ.lt {w:aw}{g:Nat}{v1 v2:Value}(h:tJ w g v1 v2):g<w.heap.size:=(gD.1 h).1
theorem tJ.later {w w':aw}{g:Nat}{v1 v2:Value}(h:tJ w g v1 v2)(hb:Below w.heap.size w w'):tJ w' g v1 v2:=by unfold tJ;rw[hb.block g h.lt];exact h
theorem tJ.one {w:aw}{g:Nat}{v1 v2:Value}(h:tJ w g v1 v2):w.cell? ⟨g,0,none⟩=some v1:=by rw[cell_of_row w g 0 _ _ (0,0) h];rfl
theorem tJ.two {w:aw}{g:Nat}{v1 v2:Value}(h:tJ w g v1 v2):w.cell? ⟨g,1,none⟩=some v2:=by rw[cell_of_row w g 1 _ _ (0,0) h];rfl
structure ZS (w:aw)(pl:List (Nat×Value×Value))(l:List (bW×Nat×Nat×Nat))(V:aw):Prop where
 p:∀e∈pl,tJ V e.1 e.2.1 e.2.2
 d:∀e∈l,gG V e.1 e.2.1 e.2.2.1 e.2.2.2
 aY:Below w.heap.size w V
theorem ZS.up {w V V':aw}{pl:List (Nat×Value×Value)}{l:List (bW×Nat×Nat×Nat)}{a:bW}{n q x:Nat}(h:ZS w pl l V)(hb:Below V.heap.size V V')(hd:gG V' a n q x):ZS w pl ((a,n,q,x)::l) V':=
 ⟨λe he=>(h.p e he).later hb,λe he=>by
  rcases mg.1 he with rfl|he
  ·exact hd
  ·exact(h.d e he).later hb,h.aY.trans (hb.mono h.aY.size)⟩
theorem ZS.n {w V:aw}{pl:List (Nat×Value×Value)}{l:List (bW×Nat×Nat×Nat)}{a:bW}{n q x:Nat}(h:ZS w pl l V)(i:Nat)(hi:l[i]?=some (a,n,q,x)):gG V a n q x:=h.d _ (List.mem_of_getElem? hi)
theorem ZS.pt {w V:aw}{pl:List (Nat×Value×Value)}{l:List (bW×Nat×Nat×Nat)}{g:Nat}{v1 v2:Value}(h:ZS w pl l V)(i:Nat)(hi:pl[i]?=some (g,v1,v2)):tJ V g v1 v2:=h.p _ (List.mem_of_getElem? hi)
theorem pE {W:aw}{a:bW}{n cap x g:Nat}{t:TypeId}{cs:bK}(h:gG W a n cap x)(hc:W.heap[g]?=some (.cells cs.toArray t (0,0)))(hk:∀v∈cs,∀d,v≠.int .i64 d)(cs':Array Value):gG (W.setRow g cs') a n cap x:=by
 refine⟨⟨h.ints.1,?_⟩,h.cap⟩
 rcases h.ints.2 with h0|⟨b,off,e,fl⟩
 ·exact .inl h0
 ·refine .inr ⟨b,off,e,λi hi=>?_⟩;have h1:=fl i hi;have eL:b≠g:=by
   intro pW;rw[pW,cell_of_row W g (off+i) _ _ (0,0) hc] at h1;have h2:cs[off+i]?=some (.int .i64 (cf (fR x) i:Int)):=by simpa using h1
   exact hk _ (List.mem_of_getElem? h2) _ rfl
  rw[World.cell?_of_block (w:=W) (a:=⟨b,off+i,none⟩) (setRow_other W g b cs' eL)];exact h1
theorem rY (ua:bW)(un uq u:Nat)(xa:bW)(xn xq x2:Nat)(za:bW)(zn zq z2:Nat)(ya:bW)(yn yq x3:Nat)(va:bW)(vn vq z3:Nat)(w:aw)
  (hu:gG w ua un uq u) (hx:gG w xa xn xq x2) (hz:gG w za zn zq z2) (hy:gG w ya yn yq x3) (hv:gG w va vn vq z3) (lu:u<bJ) (lx:x2<bJ) (lz:z2<bJ) (ly:x3<bJ) (lv:z3<bJ):
  Calls prog 85 #[.slice ua un uq,.agg #[.slice xa xn xq,.slice za zn zq],.agg #[.slice ya yn yq,.slice va vn vq]] w λe w'=>
   ∃a1 n1 q1 a2 n2 q2 a3 n3 q3 a4 n4 q4,e= .returned (.tuple #[.agg #[.slice a1 n1 q1,.slice a2 n2 q2],.agg #[.slice a3 n3 q3,.slice a4 n4 q4]])∧Below w.heap.size w w'∧
    gG w' a1 n1 q1 (JF x2 z2)∧gG w' a2 n2 q2 (JG x2 z2)∧gG w' a3 n3 q3 (G0 x2 z2 x3 z3)∧gG w' a4 n4 q4 (JH u x2 z2 x3 z3):=by
 obtain⟨W0,gK⟩:=aW ((((w.alloc (.cells #[.slice xa xn xq,.slice za zn zq] 121)).alloc (.cells #[.slice ya yn yq,.slice va vn vq] 121)).alloc (.cells #[.slice none 0 0,.slice none 0 0] 121)).alloc (.cells #[.slice none 0 0,.slice none 0 0] 121));have ik:Below w.heap.size w W0:=by rw[←gK];exact((eF.alloc (by simp) _).alloc (by simp<;>omega) _).alloc (by simp<;>omega) _
 have h4:tJ W0 w.heap.size (.slice xa xn xq) (.slice za zn zq):=by unfold tJ;rw[←gK,jE _ _ _ (by simp<;>omega),jE _ _ _ (by simp<;>omega),jE _ _ _ (by simp)];exact eC w _
 have h5:tJ W0 (w.heap.size+1) (.slice ya yn yq) (.slice va vn vq):=by unfold tJ;have h:=eC (w.alloc (.cells #[.slice xa xn xq,.slice za zn zq] 121)) (.cells #[.slice ya yn yq,.slice va vn vq] 121);rw[fx] at h;rw[←gK,jE _ _ _ (by simp<;>omega),jE _ _ _ (by simp)];exact h
 have h6:tJ W0 (w.heap.size+1+1) (.slice none 0 0) (.slice none 0 0):=by unfold tJ;have h:=eC ((w.alloc (.cells #[.slice xa xn xq,.slice za zn zq] 121)).alloc (.cells #[.slice ya yn yq,.slice va vn vq] 121)) (.cells #[.slice none 0 0,.slice none 0 0] 121);rw[fx,fx] at h;rw[←gK,jE _ _ _ (by simp)];exact h
 have h7:tJ W0 (w.heap.size+1+1+1) (.slice none 0 0) (.slice none 0 0):=by unfold tJ;have h:=eC (((w.alloc (.cells #[.slice xa xn xq,.slice za zn zq] 121)).alloc (.cells #[.slice ya yn yq,.slice va vn vq] 121)).alloc (.cells #[.slice none 0 0,.slice none 0 0] 121)) (.cells #[.slice none 0 0,.slice none 0 0] 121);rw[fx,fx,fx] at h;rw[←gK];exact h
 have HS:ae (ZS w [(w.heap.size,.slice xa xn xq,.slice za zn zq),(w.heap.size+1,.slice ya yn yq,.slice va vn vq),(w.heap.size+1+1,.slice none 0 0,.slice none 0 0),(w.heap.size+1+1+1,.slice none 0 0,.slice none 0 0)] [(ua,un,uq,u),(xa,xn,xq,x2),(za,zn,zq,z2),(ya,yn,yq,x3),(va,vn,vq,z3)] W0):=⟨List.forall_mem_cons.2 ⟨h4,List.forall_mem_cons.2 ⟨h5,List.forall_mem_cons.2 ⟨h6,List.forall_mem_cons.2 ⟨h7,λ_ h=>(by cases h)⟩⟩⟩⟩,List.forall_mem_cons.2 ⟨hu.later ik,List.forall_mem_cons.2 ⟨hx.later ik,List.forall_mem_cons.2 ⟨hz.later ik,List.forall_mem_cons.2 ⟨hy.later ik,List.forall_mem_cons.2 ⟨hv.later ik,λ_ h=>(by cases h)⟩⟩⟩⟩⟩,ik⟩;have Rn:=af gK;have c1:=h4.one;have c2:=h4.two;clear hu hx hz hy hv ik h4 h5 h6 h7 gK
 go_enter func85,ntmps85
 go_wp2_with fail
 rw[Rn.o];clear Rn;clear c1 c2;refine(oY _ _ _ _ _ _ _ _ _ (HS.o.n 1 rfl) (HS.o.n 2 rfl) (lW lx) (lW lz)).mono ?_;rintro e V1 ⟨aA,kA,qA,rfl,hb,hd⟩;obtain⟨mA,hm⟩:∃m,fA x2 z2=m:=⟨_,rfl⟩;have lA:mA<bJ:=by rw[←hm];exact OK _ _
 replace hd:gG V1 aA kA qA mA:=by rw[←hm];exact hd
 have HMA:=af hm;replace HS:=af (HS.o.up hb hd);clear hb hd hm;have c1:=(HS.o.pt 0 rfl).one;have c2:=(HS.o.pt 0 rfl).two
 go_wp2_with fail
 clear c1 c2;refine(uR _ _ _ _ _ _ _ _ _ (HS.o.n 2 rfl) (HS.o.n 3 rfl) lx lz).mono ?_;rintro e V2 ⟨aB,kB,qB,rfl,hb,hd⟩;obtain⟨mB,hm⟩:∃m,fS x2 z2=m:=⟨_,rfl⟩;have lB:mB<bJ:=by rw[←hm];exact OL _ _
 replace hd:gG V2 aB kB qB mB:=by rw[←hm];exact hd
 have HMB:=af hm;replace HS:=af (HS.o.up hb hd);clear hb hd hm
 go_wp2_with fail
 skip
 refine(eW _ _ _ _ _ _ _ _ _ (HS.o.n 1 rfl) (HS.o.n 1 rfl) (lW lA) (lW lA)).mono ?_;rintro e V3 ⟨aC,kC,qC,rfl,hb,hd⟩;obtain⟨mC,hm⟩:∃m,fM mA mA=m:=⟨_,rfl⟩;have lC:mC<bJ:=by rw[←hm];exact iy _ _
 replace hd:gG V3 aC kC qC mC:=by rw[←hm];exact hd
 have HMC:=af hm;replace HS:=af (HS.o.up hb hd);clear hb hd hm
 go_wp2_with fail
 skip
 refine(eW _ _ _ _ _ _ _ _ _ (HS.o.n 1 rfl) (HS.o.n 1 rfl) (lW lB) (lW lB)).mono ?_;rintro e V4 ⟨aD,kD,qD,rfl,hb,hd⟩;obtain⟨mD,hm⟩:∃m,fM mB mB=m:=⟨_,rfl⟩;have lD:mD<bJ:=by rw[←hm];exact iy _ _
 replace hd:gG V4 aD kD qD mD:=by rw[←hm];exact hd
 have HMD:=af hm;replace HS:=af (HS.o.up hb hd);clear hb hd hm
 go_wp2_with fail
 skip
 refine(uR _ _ _ _ _ _ _ _ _ (HS.o.n 1 rfl) (HS.o.n 0 rfl) lC lD).mono ?_;rintro e V5 ⟨aE,kE,qE,rfl,hb,hd⟩;obtain⟨mE,hm⟩:∃m,fS mC mD=m:=⟨_,rfl⟩;have lE:mE<bJ:=by rw[←hm];exact OL _ _
 replace hd:gG V5 aE kE qE mE:=by rw[←hm];exact hd
 have HME:=af hm;replace HS:=af (HS.o.up hb hd);clear hb hd hm;have c1:=(HS.o.pt 1 rfl).one;have c2:=(HS.o.pt 1 rfl).two
 go_wp2_with fail
 clear c1 c2;refine(uR _ _ _ _ _ _ _ _ _ (HS.o.n 8 rfl) (HS.o.n 9 rfl) ly lv).mono ?_;rintro e V6 ⟨aF,kF,qF,rfl,hb,hd⟩;obtain⟨mF,hm⟩:∃m,fS x3 z3=m:=⟨_,rfl⟩;have lF:mF<bJ:=by rw[←hm];exact OL _ _
 replace hd:gG V6 aF kF qF mF:=by rw[←hm];exact hd
 have HMF:=af hm;replace HS:=af (HS.o.up hb hd);clear hb hd hm
 go_wp2_with fail
 skip
 refine(eW _ _ _ _ _ _ _ _ _ (HS.o.n 0 rfl) (HS.o.n 5 rfl) (lW lF) (lW lA)).mono ?_;rintro e V7 ⟨aG,kG,qG,rfl,hb,hd⟩;obtain⟨mG,hm⟩:∃m,fM mF mA=m:=⟨_,rfl⟩;have lG:mG<bJ:=by rw[←hm];exact iy _ _
 replace hd:gG V7 aG kG qG mG:=by rw[←hm];exact hd
 have HMG:=af hm;replace HS:=af (HS.o.up hb hd);clear hb hd hm;have c1:=(HS.o.pt 1 rfl).one;have c2:=(HS.o.pt 1 rfl).two
 go_wp2_with fail
 clear c1 c2;refine(oY _ _ _ _ _ _ _ _ _ (HS.o.n 10 rfl) (HS.o.n 11 rfl) (lW ly) (lW lv)).mono ?_;rintro e V8 ⟨aH,kH,qH,rfl,hb,hd⟩;obtain⟨mH,hm⟩:∃m,fA x3 z3=m:=⟨_,rfl⟩;have lH:mH<bJ:=by rw[←hm];exact OK _ _
 replace hd:gG V8 aH kH qH mH:=by rw[←hm];exact hd
 have HMH:=af hm;replace HS:=af (HS.o.up hb hd);clear hb hd hm
 go_wp2_with fail
 skip
 refine(eW _ _ _ _ _ _ _ _ _ (HS.o.n 0 rfl) (HS.o.n 6 rfl) (lW lH) (lW lB)).mono ?_;rintro e V9 ⟨aI,kI,qI,rfl,hb,hd⟩;obtain⟨mI,hm⟩:∃m,fM mH mB=m:=⟨_,rfl⟩;have lI:mI<bJ:=by rw[←hm];exact iy _ _
 replace hd:gG V9 aI kI qI mI:=by rw[←hm];exact hd
 have HMI:=af hm;replace HS:=af (HS.o.up hb hd);clear hb hd hm
 go_wp2_with fail
 skip
 refine(oY _ _ _ _ _ _ _ _ _ (HS.o.n 2 rfl) (HS.o.n 0 rfl) (lW lG) (lW lI)).mono ?_;rintro e V10 ⟨aJ,kJ,qJ,rfl,hb,hd⟩;obtain⟨mJ,hm⟩:∃m,fA mG mI=m:=⟨_,rfl⟩;have lJ:mJ<bJ:=by rw[←hm];exact OK _ _
 replace hd:gG V10 aJ kJ qJ mJ:=by rw[←hm];exact hd
 have HMJ:=af hm;replace HS:=af (HS.o.up hb hd);clear hb hd hm
 go_wp2_with fail
 skip
 refine(uR _ _ _ _ _ _ _ _ _ (HS.o.n 3 rfl) (HS.o.n 1 rfl) lG lI).mono ?_;rintro e V11 ⟨aK,kK,qK,rfl,hb,hd⟩;obtain⟨mK,hm⟩:∃m,fS mG mI=m:=⟨_,rfl⟩;have lK:mK<bJ:=by rw[←hm];exact OL _ _
 replace hd:gG V11 aK kK qK mK:=by rw[←hm];exact hd
 have HMK:=af hm;replace HS:=af (HS.o.up hb hd);clear hb hd hm
 go_wp2_with fail
 obtain⟨WL,hWL⟩:∃W,V11.alloc (.cells #[.int .i64 65,.int .i64 219,.int .i64 1] 3)=W:=⟨_,rfl⟩;have E9:Below V11.heap.size V11 WL:=by rw[←hWL];exact(bZ _ _).alloc (di _) _
 have hdL:gG WL (some ⟨V11.heap.size,0,none⟩) 3 3 121665:=by
  refine⟨⟨by rw[EF];rfl,.inr ⟨_,0,rfl,λi hi=>?_⟩⟩,di _⟩;rw[EF,←hWL];have h:=eC V11 (.cells #[.int .i64 65,.int .i64 219,.int .i64 1] 3);rw[cell_of_row _ _ _ _ _ (0,0) h]
  match i,hi with
  |0,_=>rfl
  |1,_=>rfl
  |2,_=>rfl
 rw[hWL];clear hWL;replace HS:=af (HS.o.up E9 hdL);have lL:121665<bJ:=by decide
 clear E9 hdL;generalize V11.heap.size=gL at*
 refine(eW _ _ _ _ _ _ _ _ _ (HS.o.n 0 rfl) (HS.o.n 7 rfl) (lW lL) (lW lE)).mono ?_;rintro e V12 ⟨aM,kM,qM,rfl,hb,hd⟩;obtain⟨mM,hm⟩:∃m,fM 121665 mE=m:=⟨_,rfl⟩;have lM:mM<bJ:=by rw[←hm];exact iy _ _
 replace hd:gG V12 aM kM qM mM:=by rw[←hm];exact hd
 have HMM:=af hm;replace HS:=af (HS.o.up hb hd);clear hb hd hm
 go_wp2_with fail
 skip
 refine(oY _ _ _ _ _ _ _ _ _ (HS.o.n 10 rfl) (HS.o.n 0 rfl) (lW lC) (lW lM)).mono ?_;rintro e V13 ⟨aN,kN,qN,rfl,hb,hd⟩;obtain⟨mN,hm⟩:∃m,fA mC mM=m:=⟨_,rfl⟩;have lN:mN<bJ:=by rw[←hm];exact OK _ _
 replace hd:gG V13 aN kN qN mN:=by rw[←hm];exact hd
 have HMN:=af hm;replace HS:=af (HS.o.up hb hd);clear hb hd hm
 go_wp2_with fail
 skip
 refine(eW _ _ _ _ _ _ _ _ _ (HS.o.n 11 rfl) (HS.o.n 10 rfl) (lW lC) (lW lD)).mono ?_;rintro e V14 ⟨aP,kP,qP,rfl,hb,hd⟩;obtain⟨mP,hm⟩:∃m,fM mC mD=m:=⟨_,rfl⟩;have lP:mP<bJ:=by rw[←hm];exact iy _ _
 replace hd:gG V14 aP kP qP mP:=by rw[←hm];exact hd
 have HMP:=af hm;replace HS:=af (HS.o.up hb hd);clear hb hd hm
 go_wp2_with fail
 skip
 refine(eW _ _ _ _ _ _ _ _ _ (HS.o.n 10 rfl) (HS.o.n 1 rfl) (lW lE) (lW lN)).mono ?_;rintro e V15 ⟨aQ,kQ,qQ,rfl,hb,hd⟩;obtain⟨mQ,hm⟩:∃m,fM mE mN=m:=⟨_,rfl⟩;have lQ:mQ<bJ:=by rw[←hm];exact iy _ _
 replace hd:gG V15 aQ kQ qQ mQ:=by rw[←hm];exact hd
 have HMQ:=af hm;replace HS:=af (HS.o.up hb hd);clear hb hd hm
 go_wp2_with fail
 skip
 refine(eW _ _ _ _ _ _ _ _ _ (HS.o.n 6 rfl) (HS.o.n 6 rfl) (lW lJ) (lW lJ)).mono ?_;rintro e V16 ⟨aR,kR,qR,rfl,hb,hd⟩;obtain⟨mR,hm⟩:∃m,fM mJ mJ=m:=⟨_,rfl⟩;have lR:mR<bJ:=by rw[←hm];exact iy _ _
 replace hd:gG V16 aR kR qR mR:=by rw[←hm];exact hd
 have HMR:=af hm;replace HS:=af (HS.o.up hb hd);clear hb hd hm
 go_wp2_with fail
 skip
 refine(eW _ _ _ _ _ _ _ _ _ (HS.o.n 6 rfl) (HS.o.n 6 rfl) (lW lK) (lW lK)).mono ?_;rintro e V17 ⟨aS,kS,qS,rfl,hb,hd⟩;obtain⟨mS,hm⟩:∃m,fM mK mK=m:=⟨_,rfl⟩;have lS:mS<bJ:=by rw[←hm];exact iy _ _
 replace hd:gG V17 aS kS qS mS:=by rw[←hm];exact hd
 have HMS:=af hm;replace HS:=af (HS.o.up hb hd);clear hb hd hm
 go_wp2_with fail
 skip
 refine(eW _ _ _ _ _ _ _ _ _ (HS.o.n 18 rfl) (HS.o.n 0 rfl) (lW lu) (lW lS)).mono ?_;rintro e V18 ⟨aT,kT,qT,rfl,hb,hd⟩;obtain⟨mT,hm⟩:∃m,fM u mS=m:=⟨_,rfl⟩;have lT:mT<bJ:=by rw[←hm];exact iy _ _
 replace hd:gG V18 aT kT qT mT:=by rw[←hm];exact hd
 have HMT:=af hm;replace HS:=af (HS.o.up hb hd);clear hb hd hm;have gN:=aL V18 (w.heap.size+1+1) _ _ [.slice aP kP qP,.slice aQ kQ qQ] (HS.o.pt 2 rfl) rfl (by simp[Value.oneCell']);have BR:tJ (V18.setRow (w.heap.size+1+1) #[.slice aP kP qP,.slice aQ kQ qQ]) (w.heap.size+1+1) (.slice aP kP qP) (.slice aQ kQ qQ):=setRow_heap V18 _ _ _ _ _ (HS.o.pt 2 rfl);have WX:tJ (V18.setRow (w.heap.size+1+1) #[.slice aP kP qP,.slice aQ kQ qQ]) (w.heap.size+1+1+1) (.slice none 0 0) (.slice none 0 0):=by unfold tJ;rw[setRow_other _ _ _ _ (by omega)];exact HS.o.pt 3 rfl
 have hbx:Below w.heap.size w (V18.setRow (w.heap.size+1+1) #[.slice aP kP qP,.slice aQ kQ qQ]):=below_setRow HS.o.aY (by omega) _;have Ma:∀v∈[Value.slice none 0 0,.slice none 0 0],∀d,v≠.int .i64 d:=by simp
 have dP:=pE (HS.o.n 4 rfl) (HS.o.pt 2 rfl) Ma #[.slice aP kP qP,.slice aQ kQ qQ];have dQ:=pE (HS.o.n 3 rfl) (HS.o.pt 2 rfl) Ma #[.slice aP kP qP,.slice aQ kQ qQ];have dR:=pE (HS.o.n 2 rfl) (HS.o.pt 2 rfl) Ma #[.slice aP kP qP,.slice aQ kQ qQ];have dT:=pE (HS.o.n 0 rfl) (HS.o.pt 2 rfl) Ma #[.slice aP kP qP,.slice aQ kQ qQ];obtain⟨X1,jN⟩:∃X,V18.setRow (w.heap.size+1+1) #[.slice aP kP qP,.slice aQ kQ qQ]=X:=⟨_,rfl⟩;rw[jN] at BR WX hbx dP dQ dR dT;rw[jN] at gN;have eO:=aL X1 (w.heap.size+1+1+1) _ _ [.slice aR kR qR,.slice aT kT qT] WX rfl (by simp[Value.oneCell']);have H9:ae (tJ (X1.setRow (w.heap.size+1+1+1) #[.slice aR kR qR,.slice aT kT qT]) (w.heap.size+1+1+1) (.slice aR kR qR) (.slice aT kT qT)):=setRow_heap X1 _ _ _ _ _ WX;have H8:ae (tJ (X1.setRow (w.heap.size+1+1+1) #[.slice aR kR qR,.slice aT kT qT]) (w.heap.size+1+1) (.slice aP kP qP) (.slice aQ kQ qQ)):=by show tJ _ _ _ _;unfold tJ;rw[setRow_other _ _ _ _ (by omega)];exact BR
 have HB:ae (Below w.heap.size w (X1.setRow (w.heap.size+1+1+1) #[.slice aR kR qR,.slice aT kT qT])):=below_setRow hbx (by omega) _;have GP:=af (pE dP WX Ma #[.slice aR kR qR,.slice aT kT qT]);have GQ:=af (pE dQ WX Ma #[.slice aR kR qR,.slice aT kT qT]);have GR:=af (pE dR WX Ma #[.slice aR kR qR,.slice aT kT qT]);have GT:=af (pE dT WX Ma #[.slice aR kR qR,.slice aT kT qT]);obtain⟨X2,lf⟩:∃X,X1.setRow (w.heap.size+1+1+1) #[.slice aR kR qR,.slice aT kT qT]=X:=⟨_,rfl⟩;rw[lf] at eO H9 H8 HB GP GQ GR GT;have Cm:=af WX;have Bl:=af jN;have xT:=af lf;clear BR WX hbx dP dQ dR dT jN lf Ma gN eO
 go_wp2_with (first|(refine wpList_store_row rfl 121 _ _ rfl (w.heap.size+1+1) #[.slice aP kP qP,.slice aQ kQ qQ] rfl rfl 121 _ (HS.o.pt 2 rfl) aav.out rfl aaO.out ?_;rw[Bl.o])|(refine wpList_store_row rfl 121 _ _ rfl (w.heap.size+1+1+1) #[.slice aR kR qR,.slice aT kT qT] rfl rfl 121 _ Cm.o aav.out rfl aaO.out ?_;rw[xT.o])|fail)
 (try simp only[nu,Exit.then])
 refine bodyPost_ret (LC rfl _ _ (w.heap.size+1+1) (w.heap.size+1+1+1) 121 _ _ _ rfl rfl H8.o H9.o underlying121 rfl (by kernel_rfl) (by kernel_rfl)) rfl ?_;have e1:JF x2 z2=mP:=by unfold JF;rw[HMA.o,HMB.o,HMC.o,HMD.o,HMP.o]
 have e0:nE x2 z2=mE:=by unfold nE;rw[HMA.o,HMB.o,HMC.o,HMD.o,HME.o]
 have e2:JG x2 z2=mQ:=by unfold JG;rw[e0,HMA.o,HMC.o,HMM.o,HMN.o,HMQ.o]
 have e3:G0 x2 z2 x3 z3=mR:=by unfold G0 nP;rw[HMA.o,HMB.o,HMF.o,HMH.o,HMG.o,HMI.o,HMJ.o,HMR.o]
 have e4:JH u x2 z2 x3 z3=mT:=by unfold JH nM;rw[HMA.o,HMB.o,HMF.o,HMH.o,HMG.o,HMI.o,HMK.o,HMS.o,HMT.o]
 rw[e1,e2,e3,e4];exact⟨_,_,_,_,_,_,_,_,_,_,_,_,rfl,HB.o,GP.out,GQ.out,GR.out,GT.out⟩
theorem aiM (r:Nat)(h:r<256):bits .and .u8 (r:Int) 1=((r % 2:Nat):Int):=by
 have h1:∀r:Fin 256,bits .and .u8 (r.val:Int) 1=((r.val % 2:Nat):Int):=by decide+kernel
 exact h1 ⟨r,h⟩
structure Ml (w:aw)(g6 g7:Nat)(ua:bW)(un uq U:Nat)(ka:bW)(k:aO)(a1:bW)(n1 q1 x2:Nat)(a2:bW)(n2 q2 z2:Nat)(a3:bW)(n3 q3 x3:Nat)(a4:bW)(n4 q4 z3:Nat)(n:Nat×Nat)(W:aw):Prop where
 p6:tJ W g6 (.slice a1 n1 q1) (.slice a2 n2 q2)
 p7:tJ W g7 (.slice a3 n3 q3) (.slice a4 n4 q4)
 d1:gG W a1 n1 q1 x2
 d2:gG W a2 n2 q2 z2
 d3:gG W a3 n3 q3 x3
 d4:gG W a4 n4 q4 z3
 du:gG W ua un uq U
 kb:bj W ka 32 k
 kl:∀b o f,ka=some ⟨b,o,f⟩→b<w.heap.size
 l1:x2<bJ
 l2:z2<bJ
 l3:x3<bJ
 l4:z3<bJ
 lu:U<bJ
 lad:I3 U n x2 z2 x3 z3
 ne:g6≠g7
 le6:w.heap.size≤g6
 le7:w.heap.size≤g7
 aY:Below w.heap.size w W
theorem IE {w W:aw}{ka:bW}{k:aO}{g:Nat}(h:bj W ka 32 k)(hl:∀b o f,ka=some ⟨b,o,f⟩→b<w.heap.size)(hg:w.heap.size≤g)(cs:Array Value):bj (W.setRow g cs) ka 32 k:=by
 rcases h.2 with h0|⟨b,off,e,hc⟩
 ·exact absurd h0 (by decide)
 ·have:=hl b off none e;rw[e] at h⊢;exact h.but (bI.setRow W g _) (by omega)
theorem PH (v1 v2:Value)(a b:bW)(n c m d:Nat)(h1:v1= .slice a n c)(h2:v2= .slice b m d):∀v∈[v1,v2],∀d,v≠.int .i64 d:=by
 intro v hv d' e;simp only[mg,nj,or_false] at hv
 rcases hv with rfl|rfl
 ·rw[h1] at e;cases e
 ·rw[h2] at e;cases e
theorem Ml.put {w:aw}{g6 g7:Nat}{ua:bW}{un uq U:Nat}{ka:bW}{k:aO}{a1:bW}{n1 q1 x2:Nat}{a2:bW}{n2 q2 z2:Nat}{a3:bW}{n3 q3 x3:Nat}{a4:bW}{n4 q4 z3:Nat}{n:Nat×Nat}{W V:aw}(t:Ml w g6 g7 ua un uq U ka k a1 n1 q1 x2 a2 n2 q2 z2 a3 n3 q3 x3 a4 n4 q4 z3 n W)(hb:Below W.heap.size W V){m:Nat×Nat}{b1:bW}{m1 r1 y2:Nat}{b2:bW}{m2 r2 v2:Nat}{b3:bW}{m3 r3 y3:Nat}{b4:bW}{m4 r4 v3:Nat}
  (e1:gG V b1 m1 r1 y2) (e2:gG V b2 m2 r2 v2) (e3:gG V b3 m3 r3 y3) (e4:gG V b4 m4 r4 v3) (h1:y2<bJ) (h2:v2<bJ) (h3:y3<bJ) (h4:v3<bJ) (hl:I3 U m y2 v2 y3 v3):
  Ml w g6 g7 ua un uq U ka k b1 m1 r1 y2 b2 m2 r2 v2 b3 m3 r3 y3 b4 m4 r4 v3 m ((V.setRow g6 #[.slice b1 m1 r1,.slice b2 m2 r2]).setRow g7 #[.slice b3 m3 r3,.slice b4 m4 r4])∧
  Ml w g6 g7 ua un uq U ka k b1 m1 r1 y2 b2 m2 r2 v2 b3 m3 r3 y3 b4 m4 r4 v3 m ((V.setRow g7 #[.slice b3 m3 r3,.slice b4 m4 r4]).setRow g6 #[.slice b1 m1 r1,.slice b2 m2 r2]):=by
 have hV6:=t.p6.later hb;have hV7:=t.p7.later hb;have eL:=t.ne;have k6:=PH _ _ a1 a2 n1 q1 n2 q2 rfl rfl;have k7:=PH _ _ a3 a4 n3 q3 n4 q4 rfl rfl;have dg:∀{a:bW} {n c x:Nat},gG V a n c x→gG ((V.setRow g6 #[.slice b1 m1 r1,.slice b2 m2 r2]).setRow g7 #[.slice b3 m3 r3,.slice b4 m4 r4]) a n c x∧gG ((V.setRow g7 #[.slice b3 m3 r3,.slice b4 m4 r4]).setRow g6 #[.slice b1 m1 r1,.slice b2 m2 r2]) a n c x:=λh=>
  ⟨pE (pE h hV6 k6 _) (by rw[setRow_other _ _ _ _ (λe=>eL e.symm)];exact hV7) k7 _,pE (pE h hV7 k7 _) (by rw[setRow_other _ _ _ _ eL];exact hV6) k6 _⟩
 have fe:=t.aY.trans (hb.mono t.aY.size);have hk:=t.kb.later hb;refine⟨⟨?_,?_,(dg e1).1,(dg e2).1,(dg e3).1,(dg e4).1,(dg (t.du.later hb)).1,IE (IE hk t.kl t.le6 _) t.kl t.le7 _,t.kl,h1,h2,h3,h4,t.lu,hl,eL,t.le6,t.le7,below_setRow (below_setRow fe t.le6 _) t.le7 _⟩,
  ⟨?_,?_,(dg e1).2,(dg e2).2,(dg e3).2,(dg e4).2,(dg (t.du.later hb)).2,IE (IE hk t.kl t.le7 _) t.kl t.le6 _,t.kl,h1,h2,h3,h4,t.lu,hl,eL,t.le6,t.le7,below_setRow (below_setRow fe t.le7 _) t.le6 _⟩⟩
 ·unfold tJ;rw[setRow_other _ _ _ _ eL];exact setRow_heap V g6 _ _ _ _ hV6
 ·exact setRow_heap _ g7 _ _ _ _ (show(V.setRow g6 _).heap[g7]?=_ by rw[setRow_other _ _ _ _ (λe=>eL e.symm)];exact hV7)
 ·exact setRow_heap _ g6 _ _ _ _ (show(V.setRow g7 _).heap[g6]?=_ by rw[setRow_other _ _ _ _ eL];exact hV6)
 ·unfold tJ;rw[setRow_other _ _ _ _ (λe=>eL e.symm)];exact setRow_heap V g7 _ _ _ _ hV7
theorem Ml.later {w:aw}{g6 g7:Nat}{ua:bW}{un uq U:Nat}{ka:bW}{k:aO}{a1:bW}{n1 q1 x2:Nat}{a2:bW}{n2 q2 z2:Nat}{a3:bW}{n3 q3 x3:Nat}{a4:bW}{n4 q4 z3:Nat}{n:Nat×Nat}{W W':aw}(t:Ml w g6 g7 ua un uq U ka k a1 n1 q1 x2 a2 n2 q2 z2 a3 n3 q3 x3 a4 n4 q4 z3 n W)(hb:Below W.heap.size W W'):Ml w g6 g7 ua un uq U ka k a1 n1 q1 x2 a2 n2 q2 z2 a3 n3 q3 x3 a4 n4 q4 z3 n W':=
 ⟨t.p6.later hb,t.p7.later hb,t.d1.later hb,t.d2.later hb,t.d3.later hb,t.d4.later hb,t.du.later hb,t.kb.later hb,t.kl,t.l1,t.l2,t.l3,t.l4,t.lu,t.lad,t.ne,t.le6,t.le7,t.aY.trans (hb.mono t.aY.size)⟩
theorem aaX:fR 1=[1]:=PG
theorem LF (ka:bW)(kc:Nat)(k:aO)(ub:bW)(uc:Nat)(ul:aO)(w:aw)(hK:bj w ka 32 k)(hU:bj w ub 32 ul):
  Calls prog 54 #[.slice ka 32 kc,.slice ub 32 uc] w λe w'=>∃g m,e= .returned (.slice (some ⟨g,0,none⟩) 32 32)∧w.heap.size≤g∧Below w.heap.size w w'∧m<bJ∧bj w' (some ⟨g,0,none⟩) 32 (zA 32 m)∧m=mX (fC (fc k)) (fc ul % 2^255 % bJ):=by
 have HKl:ae (∀b o f,ka=some ⟨b,o,f⟩→b<w.heap.size):=λb o f ea=>by
  rcases hK.2 with h|⟨b',off,e,hc⟩
  ·exact absurd h (by decide)
  ·rw[e] at ea;cases ea
   exact World.block_lt_of_cell? w _ (hc 0 (by decide))
 have AB:=hK.1;have HK:ae (bj w ka 32 k):=hK;have HUb:ae (bj w ub 32 ul):=hU;obtain⟨U,hUe⟩:=aW (fc ul % 2^255 % bJ);have hUl:U<bJ:=by rw[←hUe];exact Nat.mod_lt _ qk
 rw[hUe];have HUe:ae (fc ul % 2^255 % bJ=U):=hUe;obtain⟨K,hKe⟩:=aW (fC (fc k));rw[hKe];have HKe:ae (fC (fc k)=K):=hKe;clear hK hU hUe hKe
 go_enter func54,ntmps54
 go_wp2_with fail
 refine(Iw ub uc ul w HUb.o).mono ?_;rintro e V1 ⟨ua,un,uq,rfl,hb,hd⟩;rw[HUe.o] at hd;have HD:ae (gG V1 ua un uq U):=hd;have HW:ae (Below w.heap.size w V1):=hb;clear hd hb
 go_wp2
 generalize hB:V1.heap.size=B
 obtain⟨W0,gK⟩:=aW (((((V1.alloc (.cells #[.int .i64 1] 3)).alloc (.cells #[] 3)).alloc (.cells #[.slice (some ⟨B,0,none⟩) 1 1,.slice (some ⟨B+1,0,none⟩) 0 0] 121)).alloc (.cells #[.int .i64 1] 3)).alloc (.cells #[.slice ua un uq,.slice (some ⟨B+1+1+1,0,none⟩) 1 1] 121));rw[gK];have WE:Ml w (B+1+1) (B+1+1+1+1) ua un uq U ka k (some ⟨B,0,none⟩) 1 1 1 (some ⟨B+1,0,none⟩) 0 0 0 ua un uq U (some ⟨B+1+1+1,0,none⟩) 1 1 1 (K,255) W0:=by
  have jH:=HW.o.size;have b1:Below V1.heap.size V1 W0:=by rw[←gK];exact(((eF.alloc (by simp) _).alloc (by simp<;>omega) _).alloc (by simp<;>omega) _).alloc (by simp<;>omega) _
  have g0:W0.heap[B]?=some (.cells #[.int .i64 1] 3 (0,0)):=by rw[←gK,jE _ _ _ (by simp<;>omega),jE _ _ _ (by simp<;>omega),jE _ _ _ (by simp<;>omega),jE _ _ _ (by simp<;>omega),←hB];exact eC V1 _
  have g2:W0.heap[B+1+1]?=some (.cells #[.slice (some ⟨B,0,none⟩) 1 1,.slice (some ⟨B+1,0,none⟩) 0 0] 121 (0,0)):=by have h:=eC ((V1.alloc (.cells #[.int .i64 1] 3)).alloc (.cells #[] 3)) (.cells #[.slice (some ⟨B,0,none⟩) 1 1,.slice (some ⟨B+1,0,none⟩) 0 0] 121);rw[fx,fx,hB] at h;rw[←gK,jE _ _ _ (by simp<;>omega),jE _ _ _ (by simp<;>omega)];exact h
  have g3:W0.heap[B+1+1+1]?=some (.cells #[.int .i64 1] 3 (0,0)):=by have h:=eC (((V1.alloc (.cells #[.int .i64 1] 3)).alloc (.cells #[] 3)).alloc (.cells #[.slice (some ⟨B,0,none⟩) 1 1,.slice (some ⟨B+1,0,none⟩) 0 0] 121)) (.cells #[.int .i64 1] 3);rw[fx,fx,fx,hB] at h;rw[←gK,jE _ _ _ (by simp<;>omega)];exact h
  have g4:W0.heap[B+1+1+1+1]?=some (.cells #[.slice ua un uq,.slice (some ⟨B+1+1+1,0,none⟩) 1 1] 121 (0,0)):=by have h:=eC ((((V1.alloc (.cells #[.int .i64 1] 3)).alloc (.cells #[] 3)).alloc (.cells #[.slice (some ⟨B,0,none⟩) 1 1,.slice (some ⟨B+1,0,none⟩) 0 0] 121)).alloc (.cells #[.int .i64 1] 3)) (.cells #[.slice ua un uq,.slice (some ⟨B+1+1+1,0,none⟩) 1 1] 121);rw[fx,fx,fx,fx,hB] at h;rw[←gK];exact h
  have one:∀g,W0.heap[g]?=some (.cells #[.int .i64 1] 3 (0,0))→gG W0 (some ⟨g,0,none⟩) 1 1 1:=λg hg=>by
   refine⟨⟨by rw[aaX];rfl,.inr ⟨g,0,rfl,λi hi=>?_⟩⟩,di _⟩;obtain rfl:i=0:=by omega
   rw[aaX,cell_of_row _ _ _ _ _ (0,0) hg];rfl
  refine⟨g2,g4,one _ g0,⟨⟨by rw[jw];rfl,.inl rfl⟩,di _⟩,HD.o.later b1,one _ g3,HD.o.later b1,HK.o.later (HW.o.trans (b1.mono HW.o.size)),HKl.o,by decide,by decide,hUl,by decide,hUl,?_,by omega,by omega,by omega,HW.o.trans (b1.mono HW.o.size)⟩;exact I3.first U K
 have zx:=af WE;clear WE gK HD HW HK HKl hB HUb HUe;obtain⟨g7,He⟩:∃g,B+1+1+1+1=g:=⟨_,rfl⟩;obtain⟨g6,T8⟩:∃g,B+1+1=g:=⟨_,rfl⟩;rw[He,T8] at zx;rw[He,T8];clear He T8
 go_loopw [8] (λi wr=>∃(c:Nat) (a1:bW) (n1 q1 x2:Nat) (a2:bW) (n2 q2 z2:Nat) (a3:bW) (n3 q3 x3:Nat) (a4:bW) (n4 q4 z3:Nat),c≤255∧i= .int .i64 ((c:Int)-1)∧ae (Ml w g6 g7 ua un uq U ka k a1 n1 q1 x2 a2 n2 q2 z2 a3 n3 q3 x3 a4 n4 q4 z3 (K,c) wr)) (λi _=>(intOf i+1).toNat)
 case atStart=>exact⟨255,_,_,_,_,_,_,_,_,_,_,_,_,_,_,_,_,di _,rfl,zx⟩
 case round=>
  clear zx;obtain⟨c,a1,n1,q1,x2,a2,n2,q2,z2,a3,n3,q3,x3,a4,n4,q4,z3,hc,rfl,hL⟩:=hrel
  by_cases kt:c=0
  ·subst kt;have hi0:¬(0:Int)≤((0:Nat):Int)-1:=by omega
   have HMX:ae (fM x2 (rj z2)=mX K U):=hL.out.lad.done;have hdr:Below wr.heap.size wr wr.drew:=gl;replace hL:=af (hL.out.later hdr);clear hdr
   go_wp2_with fail
   obtain⟨W,kY⟩:=aW (wr.drew);have ij:ae (wr.drew=W):=kY;rw[kY] at hL;clear kY;refine ah (G:=bM) (by kernel_rfl) bM.refl bM.trans (by kernel_rfl) [(0,true),(1,true),(2,true),(3,true),(4,false),(5,false),(6,false),(7,true)] rfl (by kernel_rfl) ?_;intro KK cA;rw[ij.o];clear ij
   iterate 4 (refine aa rfl (by rfl) (v:=?_) ?_ ?_;rotate_left;(intro w' hw';have c1:=(hL.out.later hw').p6.one;have c2:=(hL.out.later hw').p6.two;clear hw';go_simp;with_reducible rfl);go_simp)
   refine aU (f:=88) (args:=#[.slice a2 n2 q2]) rfl (by rfl) (by go_simp) ?_;refine(Lz a2 n2 q2 z2 W hL.out.d2 hL.out.l2).mono ?_;rintro e U1 ⟨ai,ni,qi,rfl,hb,hd⟩;refine⟨_,rfl,hb,?_⟩;have HDi:ae (gG U1 ai ni qi (rj z2)):=hd;replace hL:=af (hL.out.later hb);clear hb hd;go_simp
   refine aU (f:=87) (args:=#[.slice a1 n1 q1,.slice ai ni qi]) rfl (by rfl) (by go_simp) ?_;refine(eW a1 n1 q1 x2 ai ni qi (rj z2) U1 hL.out.d1 HDi.o (lW hL.out.l1) (lW (Xn z2))).mono ?_;rintro e U2 ⟨am,nm,qm,rfl,hb,hd⟩;refine⟨_,rfl,hb,?_⟩;obtain⟨m,hm⟩:=aW (fM x2 (rj z2));have rP:m<bJ:=by rw[←hm];exact iy _ _
   have HDm:ae (gG U2 am nm qm m):=by rw[←hm];exact hd
   rw[hm] at HMX;replace hL:=af (hL.out.later hb);clear hb hd hm;go_simp
   refine aU (f:=86) (args:=#[.slice am nm qm]) rfl (by rfl) (by go_simp) ?_;refine(FD am nm qm m U2 HDm.o (kx (HDm.o.len (lW rP)) (by decide))).mono ?_;rintro e U3 ⟨gb,rfl,O',hb,hby⟩;refine⟨_,rfl,hb,?_⟩;have Rm:ae (bj U3 (some ⟨gb,0,none⟩) 32 (zA 32 m)):=hby;have HGe:ae (w.heap.size≤gb):=kx hL.out.aY.size O';replace hL:=af (hL.out.later hb);clear hb hby O';go_simp
   iterate 1 (refine aa rfl (by rfl) (v:=?_) ?_ ?_;rotate_left;(intro w' hw';clear hw';go_simp;with_reducible rfl);go_simp)
   refine az cA ?_;clear cA
   (try go_wp2)
   go_ret
   exact⟨gb,m,rfl,HGe.o,hL.out.aY,rP,Rm.o,HMX.o⟩
  ·obtain⟨i,rfl⟩:∃i,c=i+1:=⟨c-1,by omega⟩;have Z':((i+1:Nat):Int)-1=(i:Int):=by omega
   rw[Z'];clear Z' kt;have hi0:(0:Int)≤(i:Int):=by omega
   obtain⟨q8,U7⟩:∃q,i/8=q:=⟨_,rfl⟩;obtain⟨r8,Sv⟩:∃r,i % 8=r:=⟨_,rfl⟩;have adA:q8<32:=by omega
   have WX:r8<8:=by omega
   have t1:(i:Int).tdiv 8=(q8:Int):=by rw[Int.tdiv_eq_ediv_of_nonneg (by omega)];omega
   have t2:(i:Int).tmod 8=(r8:Int):=by rw[Int.tmod_eq_emod_of_nonneg (by omega)];omega
   have t3:(q8:Int)<32:=by omega
   obtain⟨b,off,rfl,fl⟩:=hL.out.kb.at_ q8 adA;obtain⟨t,ht⟩:=aW ((at8 k q8).toNat);have rp:t<256:=by rw[←ht];exact(at8 k q8).toNat_lt
   rw[ht] at fl;have zV:=OM k i (by omega);rw[U7,Sv,ht] at zV;obtain⟨v,hv⟩:=aW (t/2^r8);have UE:v<256:=by rw[←hv];exact Nat.lt_of_le_of_lt (Nat.div_le_self _ _) rp
   have t4:(t:Int)/2^r8=(v:Int):=by rw[←hv,Int.natCast_ediv];simp
   obtain⟨bb,BN⟩:=aW (v % 2);have t5:bits .and .u8 (v:Int) 1=(bb:Int):=by rw[aiM v UE,BN]
   rw[hv,BN] at zV;have Il:=af zV;have hKt:=JI (fc k) i;rw[HKe.o] at hKt;have HKt:=af hKt;have HQ8:=af U7;have iK:=af Sv;clear zV hKt hv BN ht U7 Sv;have HT:∀x:Bool,K.testBit i=x→K/2^i % 2=(if x then 1 else 0):=λx hx=>by
    cases x with
    |true=>exact(G5 K i).2 hx
    |false=>
     have h:=λh1=>Bool.false_ne_true (hx.symm.trans ((G5 K i).1 h1));have h2:=Nat.mod_lt (K/2^i) (show 0<2 by decide);simp only[Bool.false_eq_true,if_false];have h3:¬K/2^i % 2=1:=h;omega
   by_cases Zw:i=254
   ·have HN:ae (K/2^i % 2=1):=by have h:=HT true (by rw[HKt.o];simp[Zw]);exact h
    clear HT;subst Zw;obtain rfl:q8=31:=by have:=HQ8.o;omega
    obtain rfl:r8=6:=by have:=iK.o;omega
    have t4':(t:Int)/64=(v:Int):=by simpa using t4
    clear t4
    go_wp2_with (first|refine wpList_load_row rfl 121 _ rfl g6 rfl 121 _ (0,0) _ hL.out.p6 underlying121 rfl aav.out ?_|refine wpList_load_row rfl 121 _ rfl g7 rfl 121 _ (0,0) _ hL.out.p7 underlying121 rfl aav.out ?_|fail)
    refine(rY ua un uq U a3 n3 q3 x3 a4 n4 q4 z3 a1 n1 q1 x2 a2 n2 q2 z2 wr hL.out.du hL.out.d3 hL.out.d4 hL.out.d1 hL.out.d2 hL.out.lu hL.out.l3 hL.out.l4 hL.out.l1 hL.out.l2).mono ?_;rintro e V ⟨b1,m1,r1,b2,m2,r2,b3,m3,r3,b4,m4,r4,rfl,hb,e1,e2,e3,e4⟩;have hl:=hL.out.lad.one HN.o;have EY:=(hL.out.put hb e3 e4 e1 e2 (iy _ _) (iy _ _) (iy _ _) (iy _ _) hl).2;have f8:=af (hL.out.p7.later hb);have hq:tJ (V.setRow g7 #[.slice b1 m1 r1,.slice b2 m2 r2]) g6 (.slice a1 n1 q1) (.slice a2 n2 q2):=by unfold tJ;rw[setRow_other _ _ _ _ hL.out.ne];exact hL.out.p6.later hb
    obtain⟨X1,jN⟩:∃X,V.setRow g7 #[.slice b1 m1 r1,.slice b2 m2 r2]=X:=⟨_,rfl⟩;rw[jN] at EY hq;obtain⟨X2,lf⟩:∃X,X1.setRow g6 #[.slice b3 m3 r3,.slice b4 m4 r4]=X:=⟨_,rfl⟩;rw[lf] at EY;have HQ:=af hq;have Bl:=af jN;have xT:=af lf;have WK:=af EY;clear EY hq jN lf hb e1 e2 e3 e4 hl hL HN HKt Il
    go_wp2_with (first|(refine wpList_store_row rfl 121 _ _ rfl g7 #[.slice b1 m1 r1,.slice b2 m2 r2] rfl rfl 121 _ f8.o aav.out rfl aaO.out ?_;rw[Bl.o])|(refine wpList_store_row rfl 121 _ _ rfl g6 #[.slice b3 m3 r3,.slice b4 m4 r4] rfl rfl 121 _ HQ.o aav.out rfl aaO.out ?_;rw[xT.o])|fail)
    exact⟨⟨254,b3,m3,r3,_,b4,m4,r4,_,b1,m1,r1,_,b2,m2,r2,_,by omega,rfl,WK⟩,by simp[intOf]<;>omega⟩
   ·have aqo:¬(i:Int)=254:=by omega
    by_cases h3:i<3
    ·have h3i:(i:Int)<3:=by omega
     have HN:ae (K/2^i % 2=0):=by have h:=HT false (by rw[HKt.o];simp[Zw,show¬3≤i by omega]);exact h
     clear HT
     go_wp2_with (first|refine wpList_load_row rfl 121 _ rfl g6 rfl 121 _ (0,0) _ hL.out.p6 underlying121 rfl aav.out ?_|refine wpList_load_row rfl 121 _ rfl g7 rfl 121 _ (0,0) _ hL.out.p7 underlying121 rfl aav.out ?_|fail)
     refine(rY ua un uq U a1 n1 q1 x2 a2 n2 q2 z2 a3 n3 q3 x3 a4 n4 q4 z3 wr hL.out.du hL.out.d1 hL.out.d2 hL.out.d3 hL.out.d4 hL.out.lu hL.out.l1 hL.out.l2 hL.out.l3 hL.out.l4).mono ?_;rintro e V ⟨b1,m1,r1,b2,m2,r2,b3,m3,r3,b4,m4,r4,rfl,hb,e1,e2,e3,e4⟩;have hl:=hL.out.lad.zero HN.o;have EY:=(hL.out.put hb e1 e2 e3 e4 (iy _ _) (iy _ _) (iy _ _) (iy _ _) hl).1;have f8:=af (hL.out.p6.later hb);have hq:tJ (V.setRow g6 #[.slice b1 m1 r1,.slice b2 m2 r2]) g7 (.slice a3 n3 q3) (.slice a4 n4 q4):=by unfold tJ;rw[setRow_other _ _ _ _ (λe=>hL.out.ne e.symm)];exact hL.out.p7.later hb
     obtain⟨X1,jN⟩:∃X,V.setRow g6 #[.slice b1 m1 r1,.slice b2 m2 r2]=X:=⟨_,rfl⟩;rw[jN] at EY hq;obtain⟨X2,lf⟩:∃X,X1.setRow g7 #[.slice b3 m3 r3,.slice b4 m4 r4]=X:=⟨_,rfl⟩;rw[lf] at EY;have HQ:=af hq;have Bl:=af jN;have xT:=af lf;have WK:=af EY;clear EY hq jN lf hb e1 e2 e3 e4 hl hL HN HKt Il
     go_wp2_with (first|(refine wpList_store_row rfl 121 _ _ rfl g6 #[.slice b1 m1 r1,.slice b2 m2 r2] rfl rfl 121 _ f8.o aav.out rfl aaO.out ?_;rw[Bl.o])|(refine wpList_store_row rfl 121 _ _ rfl g7 #[.slice b3 m3 r3,.slice b4 m4 r4] rfl rfl 121 _ HQ.o aav.out rfl aaO.out ?_;rw[xT.o])|fail)
     exact⟨⟨i,b1,m1,r1,_,b2,m2,r2,_,b3,m3,r3,_,b4,m4,r4,_,by omega,rfl,WK⟩,by simp[intOf]<;>omega⟩
    ·have h3i:¬(i:Int)<3:=by omega
     have kW:bb=0∨bb=1:=by have:=Il.o;have:=Nat.mod_lt (fc k/2^i) (show 0<2 by decide);omega
     rcases kW with rfl|rfl
     ·have HN:ae (K/2^i % 2=0):=by
       have hf:(fc k).testBit i=false:=by
        cases hx:(fc k).testBit i with
        |false=>rfl
        |true=>exact absurd ((G5 (fc k) i).2 hx) (by rw[Il.o];decide)
       have h:=HT false (by rw[HKt.o];simp[Zw,hf]);exact h
      clear HT
      go_wp2_with (first|refine wpList_load_row rfl 121 _ rfl g6 rfl 121 _ (0,0) _ hL.out.p6 underlying121 rfl aav.out ?_|refine wpList_load_row rfl 121 _ rfl g7 rfl 121 _ (0,0) _ hL.out.p7 underlying121 rfl aav.out ?_|fail)
      refine(rY ua un uq U a1 n1 q1 x2 a2 n2 q2 z2 a3 n3 q3 x3 a4 n4 q4 z3 wr hL.out.du hL.out.d1 hL.out.d2 hL.out.d3 hL.out.d4 hL.out.lu hL.out.l1 hL.out.l2 hL.out.l3 hL.out.l4).mono ?_;rintro e V ⟨b1,m1,r1,b2,m2,r2,b3,m3,r3,b4,m4,r4,rfl,hb,e1,e2,e3,e4⟩;have hl:=hL.out.lad.zero HN.o;have EY:=(hL.out.put hb e1 e2 e3 e4 (iy _ _) (iy _ _) (iy _ _) (iy _ _) hl).1;have f8:=af (hL.out.p6.later hb);have hq:tJ (V.setRow g6 #[.slice b1 m1 r1,.slice b2 m2 r2]) g7 (.slice a3 n3 q3) (.slice a4 n4 q4):=by unfold tJ;rw[setRow_other _ _ _ _ (λe=>hL.out.ne e.symm)];exact hL.out.p7.later hb
      obtain⟨X1,jN⟩:∃X,V.setRow g6 #[.slice b1 m1 r1,.slice b2 m2 r2]=X:=⟨_,rfl⟩;rw[jN] at EY hq;obtain⟨X2,lf⟩:∃X,X1.setRow g7 #[.slice b3 m3 r3,.slice b4 m4 r4]=X:=⟨_,rfl⟩;rw[lf] at EY;have HQ:=af hq;have Bl:=af jN;have xT:=af lf;have WK:=af EY;clear EY hq jN lf hb e1 e2 e3 e4 hl hL HN HKt Il
      go_wp2_with (first|(refine wpList_store_row rfl 121 _ _ rfl g6 #[.slice b1 m1 r1,.slice b2 m2 r2] rfl rfl 121 _ f8.o aav.out rfl aaO.out ?_;rw[Bl.o])|(refine wpList_store_row rfl 121 _ _ rfl g7 #[.slice b3 m3 r3,.slice b4 m4 r4] rfl rfl 121 _ HQ.o aav.out rfl aaO.out ?_;rw[xT.o])|fail)
      exact⟨⟨i,b1,m1,r1,_,b2,m2,r2,_,b3,m3,r3,_,b4,m4,r4,_,by omega,rfl,WK⟩,by simp[intOf]<;>omega⟩
     ·have HN:ae (K/2^i % 2=1):=by have hf:(fc k).testBit i=true:=(G5 (fc k) i).1 Il.o;have h:=HT true (by rw[HKt.o];simp[hf,show 3≤i by omega,show i<254 by omega]);exact h
      clear HT
      go_wp2_with (first|refine wpList_load_row rfl 121 _ rfl g6 rfl 121 _ (0,0) _ hL.out.p6 underlying121 rfl aav.out ?_|refine wpList_load_row rfl 121 _ rfl g7 rfl 121 _ (0,0) _ hL.out.p7 underlying121 rfl aav.out ?_|fail)
      refine(rY ua un uq U a3 n3 q3 x3 a4 n4 q4 z3 a1 n1 q1 x2 a2 n2 q2 z2 wr hL.out.du hL.out.d3 hL.out.d4 hL.out.d1 hL.out.d2 hL.out.lu hL.out.l3 hL.out.l4 hL.out.l1 hL.out.l2).mono ?_;rintro e V ⟨b1,m1,r1,b2,m2,r2,b3,m3,r3,b4,m4,r4,rfl,hb,e1,e2,e3,e4⟩;have hl:=hL.out.lad.one HN.o;have EY:=(hL.out.put hb e3 e4 e1 e2 (iy _ _) (iy _ _) (iy _ _) (iy _ _) hl).2;have f8:=af (hL.out.p7.later hb);have hq:tJ (V.setRow g7 #[.slice b1 m1 r1,.slice b2 m2 r2]) g6 (.slice a1 n1 q1) (.slice a2 n2 q2):=by unfold tJ;rw[setRow_other _ _ _ _ hL.out.ne];exact hL.out.p6.later hb
      obtain⟨X1,jN⟩:∃X,V.setRow g7 #[.slice b1 m1 r1,.slice b2 m2 r2]=X:=⟨_,rfl⟩;rw[jN] at EY hq;obtain⟨X2,lf⟩:∃X,X1.setRow g6 #[.slice b3 m3 r3,.slice b4 m4 r4]=X:=⟨_,rfl⟩;rw[lf] at EY;have HQ:=af hq;have Bl:=af jN;have xT:=af lf;have WK:=af EY;clear EY hq jN lf hb e1 e2 e3 e4 hl hL HN HKt Il
      go_wp2_with (first|(refine wpList_store_row rfl 121 _ _ rfl g7 #[.slice b1 m1 r1,.slice b2 m2 r2] rfl rfl 121 _ f8.o aav.out rfl aaO.out ?_;rw[Bl.o])|(refine wpList_store_row rfl 121 _ _ rfl g6 #[.slice b3 m3 r3,.slice b4 m4 r4] rfl rfl 121 _ HQ.o aav.out rfl aaO.out ?_;rw[xT.o])|fail)
      exact⟨⟨i,b3,m3,r3,_,b4,m4,r4,_,b1,m1,r1,_,b2,m2,r2,_,by omega,rfl,WK⟩,by simp[intOf]<;>omega⟩
theorem BJ (ka:bW)(kc:Nat)(k:aO)(ub:bW)(uc:Nat)(ul:aO)(w:aw)(hK:bj w ka 32 k)(hU:bj w ub 32 ul):
  Calls prog 54 #[.slice ka 32 kc,.slice ub 32 uc] w λe w'=>∃g,e= .returned (.slice (some ⟨g,0,none⟩) 32 32)∧w.heap.size≤g∧Below w.heap.size w w'∧bj w' (some ⟨g,0,none⟩) 32 (zA 32 (mK k ul)):=by
 refine(LF ka kc k ub uc ul w hK hU).mono ?_;rintro e w' ⟨g,m,rfl,hg,hb,hm,hB,hX⟩;rw[hX] at hB;exact⟨g,rfl,hg,hb,hB⟩
def VR:aO:=9::cz 31 0
theorem RO:P' VR=9:=by decide+kernel
theorem VS (w:aw)(n:Nat)(h:n≤2000000):
  (Instr.makeSlice 22 (.int .i64 (n:Int)) (.int .i64 (n:Int))).run prog w= .ok (.slice (some ⟨w.heap.size,0,none⟩) n n) (w.alloc (.cells ((cz n (0:UInt8)).map bv).toArray 5)):=by
 obtain⟨i0,hi,uf,pH,uZ⟩:=info_parts Tryz.infoU8;have hr:=run_make (P:=prog) w 22 5 i0 (.int .u8 0) underlying22 hi uf .i64 .i64 (n:Int) (n:Int) (by omega) (by omega) (by rw[uZ];omega) (by omega);have e1:((n:Int)).toNat=n:=by omega
 rw[e1,pH,Nat.mul_one] at hr;have e:(madeCells (Value.int .u8 0).cells n).toList=cz n (.int .u8 0):=toList_madeCells_one _ _;have e2:madeCells (Value.int .u8 0).cells n=((cz n (0:UInt8)).map bv).toArray:=by rw[←Array.toList_inj,e];simp[bv]
 rw[e2] at hr;exact hr
theorem oL (ka:bW)(kc:Nat)(k:aO)(w:aw)(hK:bj w ka 32 k):
  Calls prog 26 #[.slice ka 32 kc] w λe w'=>∃g,e= .returned (.slice (some ⟨g,0,none⟩) 32 32)∧w.heap.size≤g∧Below w.heap.size w w'∧bj w' (some ⟨g,0,none⟩) 32 (zA 32 (mX (fC (fc k)) 9)):=by
 have vD:(Instr.makeSlice 22 (.int .i64 32) (.int .i64 32)).run prog w= .ok (.slice (some ⟨w.heap.size,0,none⟩) 32 32) (w.alloc (.cells ((cz 32 (0:UInt8)).map bv).toArray 5)):=VS w 32 (by omega);have ck:Below w.heap.size w (w.alloc (.cells ((cz 32 (0:UInt8)).map bv).toArray 5)):=eF;have Hv:dz (w.alloc (.cells ((cz 32 (0:UInt8)).map bv).toArray 5)) w.heap.size 5 (cz 32 0):=dz.new w _ _;obtain⟨W1,fg⟩:∃W,w.alloc (.cells ((cz 32 (0:UInt8)).map bv).toArray 5)=W:=⟨_,rfl⟩;rw[fg] at vD ck Hv;obtain⟨c0,f0⟩:=Hv.at_ 0 (by decide);have Pq:=Hv.set 0 9;have cM:=ck.setCell (p:=⟨w.heap.size,0,none⟩) (di _) (.int .u8 9);have HA:ae (dz (W1.setCell ⟨w.heap.size,0,none⟩ (.int .u8 9)) w.heap.size 5 VR):=Pq;have HW:ae (Below w.heap.size w (W1.setCell ⟨w.heap.size,0,none⟩ (.int .u8 9))):=cM;have HK:ae (bj w ka 32 k):=hK;clear hK ck Hv Pq cM fg
 go_enter func26,ntmps26
 go_wp2_with fail
 refine(BJ ka kc k (some ⟨w.heap.size,0,none⟩) 32 VR _ (HK.o.later HW.o) (HA.o.nw 32 rfl)).mono ?_;rintro e V ⟨g,rfl,hg,hb,hB⟩;have hgw:w.heap.size≤g:=kx HW.o.size hg;have HB:ae (bj V (some ⟨g,0,none⟩) 32 (zA 32 (mX (fC (fc k)) 9))):=by rw[mK,RO] at hB;exact hB
 have HV:ae (Below w.heap.size w V):=HW.o.trans (hb.mono HW.o.size);clear hb hB vD c0 f0 hg
 go_wp2
 go_ret
 exact⟨g,rfl,hgw,HV.o,HB.o⟩
theorem VT (n:Nat)(hn:n<bJ):decide (zA 32 n=cz 32 0)=decide (n=0):=by
 by_cases h0:n=0
 ·rw[h0,decide_eq_true (by decide:zA 32 0=cz 32 0),decide_eq_true rfl]
 ·rw[decide_eq_false h0,decide_eq_false];intro h1;have h2:=congrArg fc h1;rw[Cg,Nat.mod_eq_of_lt (Nat.lt_trans hn zj)] at h2;exact h0 (by rw[h2];decide)
def x4 (w:aw)(g:Nat)(X:Nat→Prop)(m:MS):Prop:=RMX w g X m.C m.H m.K m.has m.n
theorem x4.lt {w:aw}{g:Nat}{X:Nat→Prop}{m:MS}(h:x4 w g X m):g<w.heap.size:=by obtain⟨_,_,_,_,_,_,_,_,_,h1,_⟩:=h;exact h1.lt
theorem x4.later {w w':aw}{g:Nat}{X:Nat→Prop}{m:MS}(h:x4 w g X m)(hb:Below w.heap.size w w'):x4 w' g X m:=by obtain⟨cb,co,cc,cU,ho,hc,kb,ko,kc,h1,h2⟩:=h;exact⟨cb,co,cc,cU,ho,hc,kb,ko,kc,h1.later hb,h2⟩
theorem x4.but {w w':aw}{g y:Nat}{X:Nat→Prop}{m:MS}(h:x4 w g X m)(hG:w.grownBy w' (some y))(hy:X y)(hg:g≠y):x4 w' g X m:=by obtain⟨cb,co,cc,cU,ho,hc,kb,ko,kc,h1,h2,h3,h4⟩:=h;refine⟨cb,co,cc,cU,ho,hc,kb,ko,kc,⟨?_,h1.cl,h1.hl,h1.kl,h1.kh,h1.cB.but hG (λe=>h2 (e▸hy)),h1.hB.but hG (λe=>h3 (e▸hy)),h1.kB.but hG (λe=>h4 (e▸hy)),h1.cg,h1.hg,h1.kg⟩,h2,h3,h4⟩;rw[hG.block g h1.lt (λe=>hg (by cases e;rfl))];exact h1.row
theorem mY (gh gm:Nat)(X:Nat→Prop)(m:MS)(ka:bW)(kc:Nat)(k:aO)(ua:bW)(uc:Nat)(u:aO)(w:aw)(hq:w.cell? ⟨gh,0,none⟩=some (.pointer (some ⟨gm,0,none⟩)))(hX:∀x,X x→x<w.heap.size)(hM:x4 w gm X m)(hK:bj w ka 32 k)(hU:bj w ua 32 u):
  Calls prog 33 #[.pointer (some ⟨gh,0,none⟩),.slice ka 32 kc,.slice ua 32 uc] w λe w'=>e= .returned (.bool (!decide (mK k u=0)))∧w.grownBy w' (some gm)∧x4 w' gm X (m.key (eH k u)):=by
 have oa:=hM.lt;have anD:gh<w.heap.size:=by
  rcases Nat.lt_or_ge gh w.heap.size with h'|h'
  ·exact h'
  ·simp[World.cell?,Array.getElem?_eq_none h'] at hq
 have HM:=ak hM;have HX:=ak hX;have HK:=ak hK;have HU:=ak hU;clear hM hX hK hU
 go_enter func33,ntmps33
 go_wp2_with fail
 refine(BJ ka kc k ua uc u w HK.o HU.o).mono ?_;rintro e w1 ⟨g,rfl,hgn,ck,pz⟩;have q1:w1.cell? ⟨gh,0,none⟩=some (.pointer (some ⟨gm,0,none⟩)):=by rw[World.cell?_of_block (ck.block gh anD)];exact hq
 have iG:=ak pz;have fU:=ak ck;have Cs:=ak (HM.o.later ck);have uB:g≠gm:=by omega
 clear ck pz hq HM
 go_wp2_with fail
 obtain⟨cb,co,cc,hb,ho,hc,kb,ko,kc',hR,tT⟩:=Cs.o;refine(Lw gm cb co cc hb ho hc kb ko kc' m.C m.H m.K m.has m.n (some ⟨g,0,none⟩) 32 32 (eH k u) w1 hR X (λx h=>tV (HX.o x h) fU.o.size) tT iG.o (λe=>by cases e) (by omega) (by omega)).mono ?_;rintro e w2 ⟨⟨v2,rfl⟩,fH,wz⟩;clear hR tT;have LY:ae (x4 w2 gm X (m.key (eH k u))):=wz;have sO:=ak (gu iG.o fH (λx o f e=>by cases e;exact uB));have jR:ae (w.grownBy w2 (some gm)):=World.grownBy.trans (bI.below gm fU.o) fH;clear wz fH Cs iG fU q1
 go_wp2_with fail
 obtain⟨W,hW⟩:=aW (w2.drew);have cL:Below w2.heap.size w2 W:=by rw[←hW];exact gl
 have pd:=ak hW;have gx:=ak (sO.o.later cL);have xp:=ak (LY.o.later cL);have HGW:ae (w.grownBy W (some gm)):=World.grownBy.trans jR.o (bI.below gm cL);have vD:(Instr.makeSlice 22 (.int .i64 32) (.int .i64 32)).run prog W= .ok (.slice (some ⟨W.heap.size,0,none⟩) 32 32) (W.alloc (.cells ((cz 32 (0:UInt8)).map bv).toArray 5)):=tv W 32 (by omega);have iz:Below W.heap.size W (W.alloc (.cells ((cz 32 (0:UInt8)).map bv).toArray 5)):=eF;have hz:=(dz.new W 5 (cz 32 0)).nw 32 rfl;obtain⟨W2,fV⟩:=aW (W.alloc (.cells ((cz 32 (0:UInt8)).map bv).toArray 5));rw[fV] at vD iz hz;have HAl:=ak iz;have HZ:=ak hz;have hbq:=Ba (eH k u) (cz 32 0);have Ai:decide (eH k u=cz 32 0)=decide (mK k u=0):=VT (mK k u) (ZQ k u);rw[Ai] at hbq;have HBQ:=ak hbq;clear hbq hW cL fV iz hz sO LY jR Ai;refine ah (G:=bM) (by kernel_rfl) bM.refl bM.trans (by kernel_rfl) [(0,true),(1,true),(2,false),(3,true),(4,true),(5,true)] rfl (by kernel_rfl) ?_;intro KK cA;rw[pd.o]
 iterate 2 (refine aa rfl (by rfl) (v:=?_) ?_ ?_;rotate_left;(intro w' hw';have q1:=eG w' (some ⟨g,0,none⟩) 32 32 (eH k u) (gx.o.later hw');clear hw';go_simp;with_reducible rfl);go_simp)
 refine fZ rfl (by rfl) (v:=.slice (some ⟨W.heap.size,0,none⟩) 32 32) (w':=W2) (by go_simp) HAl.o ?_;clear vD;go_simp
 iterate 3 (refine aa rfl (by rfl) (v:=?_) ?_ ?_;rotate_left;(intro w' hw';have q1:=eG w' (some ⟨W.heap.size,0,none⟩) 32 32 (cz 32 0) (HZ.o.later hw');clear hw';go_simp;with_reducible rfl);go_simp)
 refine az cA ?_;clear cA
 go_wp2
 go_ret
 refine⟨?_,World.grownBy.trans HGW.o (bI.below gm HAl.o),xp.o.later HAl.o⟩;show Ending.returned (.bool (!((S (eH k u)).toList==(S (cz 32 0)).toList)))=_;rw[HBQ.o]
end Go.Proofs.YtkdpblbhcfhagaaGreatDoor
