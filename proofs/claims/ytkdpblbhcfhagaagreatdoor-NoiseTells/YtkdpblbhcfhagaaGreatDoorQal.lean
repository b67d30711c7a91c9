import Derived.Test.YtkdpblbhcfhagaaGreatDoorQak
import Derived.Deep.QuietTactic
import Derived.BigQuiet
import Derived.Test.YtkdpblbhcfhagaaGreatDoorQaj
import Derived.Lib.BufferWrite
import Derived.Lib.ConvBytes
namespace Go.Proofs.YtkdpblbhcfhagaaGreatDoor
open Go.Proofs.Tryz
open _root_.Nat renaming le_refl → di, le_trans → kx, lt_of_lt_of_le → tV
open Go.RowKit.Below renaming refl → bZ, heap_alloc → jE
open Go.World renaming size_alloc → fx
open _root_.Array renaming getElem?_eq_some_iff → gD
open Go renaming undef → ag, World → aw, heap_alloc_new → eC
open _root_.List renaming replicate → cz, not_mem_nil → nj, mem_cons → mg, take_of_length_le → su
open Go.Exit renaming inBlock → nu
set_option maxHeartbeats 64000000
set_option linter.unusedVariables false
set_option maxRecDepth 100000
open Go.RowKit
theorem uI (a b:bW)(len cap eg fT:Nat)(l m:aO)(w:aw)(hA:bj w a len l)(hB:bj w b eg m)(EU:len≤1000000)(FN:eg≤1000000):
  Calls prog 125 #[.slice a len cap,.slice b eg fT] w λe w'=>∃v,e= .returned v∧Below w.heap.size w w'∧w'.ownsRow w.heap.size 5 1 v (min len eg) ((kU l m).map bv):=by
 obtain⟨n,hn⟩:∃n,n=min len eg:=⟨_,rfl⟩;rw[←hn];have Hn:ae (n=min len eg):=hn;have s9:n≤len:=by omega
 have tL:n≤eg:=by omega
 have CZ:len≤n∨eg≤n:=by omega
 clear hn
 go_enter func125,ntmps125
 go_wp2
 go_loopw [5,6] (λv i wr=>∃(k:Nat) (v':Value),k≤n∧i= .int .i64 k∧v'=v∧ae (wr.ownsRow w.heap.size 5 1 v' k (((kU l m).take k).map bv))∧Below w.heap.size w wr) (λ_ i _=>n-(intOf i).toNat)
 case atStart=>
  exact⟨0,_,Nat.zero_le _,rfl,rfl,World.ownsRow_made w #[] 0 (di _) (Nat.zero_le _) rfl,(bZ _ _).alloc (di _) _⟩
 case round=>
  obtain⟨k,v,hk,rfl,hv,ff,fe⟩:=hrel;subst hv;have Xj:=hA.1;have Wq:=hB.1
  by_cases dN:k<n
  ·rcases hA.2 with h0|⟨ba,fz,rfl,GY⟩
   ·omega
   rcases hB.2 with h0|⟨bb,CR,rfl,rf⟩
   ·omega
   have JB:=GY k (by omega);have JC:=rf k (by omega);have JD:=World.block_lt_of_cell? w _ JB;have BN:=World.block_lt_of_cell? w _ JC;have i1:(k:Int)<(len:Int):=by omega
   have i2:(k:Int)<(eg:Int):=by omega
   go_wp2
   refine ah (G:=Below w.heap.size) (by kernel_rfl) (bZ _) (λ_ _ _=>Below.trans) (by kernel_rfl) [(0,true),(1,true),(2,true),(3,true),(4,true),(5,true),(6,true),(7,true),(8,true),(9,true),(10,true),(11,true),(12,true),(13,true),(14,true),(15,true),(16,true),(17,true),(18,true),(19,true),(20,false),(21,false),(22,true)] rfl (by kernel_rfl) ?_;intro KK cA;have Fg:Below w.heap.size w wr.drew:=fe.drew;obtain⟨W,hW⟩:=aW (wr.drew);rw[hW];rw[hW] at Fg;have oR:∀w',Below w.heap.size W w'→w'.cell? ⟨ba,fz+k,none⟩=some (.int .u8 ((at8 l k).toNat:Int)):=λw' h=>by rw[(Fg.trans h).cell (p:=⟨ba,fz+k,none⟩) JD];exact JB
   have om:∀w',Below w.heap.size W w'→w'.cell? ⟨bb,CR+k,none⟩=some (.int .u8 ((at8 m k).toNat:Int)):=λw' h=>by rw[(Fg.trans h).cell (p:=⟨bb,CR+k,none⟩) BN];exact JC
   iterate 20 (refine aa rfl (by rfl) (v:=?_) ?_ ?_;rotate_left;(intro w' hw';have q1:=oR w' hw';have q2:=om w' hw';go_simp;with_reducible rfl);go_simp)
   have UH:W.ownsRow w.heap.size 5 1 v k (((kU l m).take k).map bv):=by rw[←hW];exact ff.out
   have fW:bj (W.alloc (.cells #[bv (at8 l k^^^at8 m k)] 5)) (some ⟨W.heap.size,0,none⟩) 1 [at8 l k^^^at8 m k]:=jK _ [_] W.heap.size _ _ _ (eC W _) rfl;obtain⟨v2,w2,jS,iJ,cL⟩:=cI (W.alloc (.cells #[bv (at8 l k^^^at8 m k)] 5)) w.heap.size v k _ (UH.alloc _) ⟨W.heap.size,0,none⟩ 1 1 _ fW (by have:=Fg.size;simp;omega) (by omega);have fH:Below w.heap.size (W.alloc (.cells #[bv (at8 l k^^^at8 m k)] 5)) w2:=(bZ _ _).grown cL (by have:=Fg.size;simp;omega) (λj hj=>(UH.lt j hj).1);refine fZ rfl (by rfl) (v:=.slice (some ⟨W.heap.size,0,none⟩) 1 1) (w':=W.alloc (.cells #[bv (at8 l k^^^at8 m k)] 5)) ?_ ((bZ _ _).alloc Fg.size _) ?_
   ·rw[bv,←C6];go_simp
   ·refine ki rfl (by rfl) rfl (by rfl) (by rfl) jS fH ?_;go_simp
    refine aa rfl (by rfl) (v:=?_) ?_ ?_
    rotate_left
    ·intro w' hw';go_simp;with_reducible rfl
    go_simp
    have cM:Below w.heap.size w w2:=Fg.trans (((bZ _ _).alloc Fg.size _).trans fH);have ur:ae (w2.ownsRow w.heap.size 5 1 v2 (k+1) (((kU l m).take (k+1)).map bv)):=by rw[tW _ _ (by rw[gR];omega),GX _ _ _ (by omega) (by omega)];exact iJ
    clear iJ jS cL oR om UH GY rf fH fW ff;refine az cA ?_
    go_wp2
    exact⟨⟨k+1,v2,by omega,by go_num,rfl,ur,cM⟩,by simp[intOf];omega⟩
  ·have ek:k=n:=by omega
   subst ek;have hf:=ff.out;rw[su (by rw[gR,Xj,Wq,←Hn.o];exact di _)] at hf;have HF:ae (wr.ownsRow w.heap.size 5 1 v k ((kU l m).map bv)):=hf;clear hf ff
   by_cases hk2:(k:Int)<(len:Int)
   ·have Cj:¬(k:Int)<(eg:Int):=by omega
    go_wp2
    go_ret
    exact⟨v,rfl,fe,HF.o⟩
   ·go_wp2
    go_ret
    exact⟨v,rfl,fe,HF.o⟩
theorem DW (n:Nat)(c:UInt8):cz n c++[c]=cz (n+1) c:=by rw[List.replicate_succ']
theorem uJ (c:UInt8)(w:aw):
  Calls prog 126 #[.int .u8 (c.toNat:Int)] w λe w'=>∃v,e= .returned v∧Below w.heap.size w w'∧w'.ownsRow w.heap.size 5 1 v 64 ((rh c).map bv):=by
 go_enter func126,ntmps126
 go_wp2
 go_loopw [3,4] (λv i wr=>∃(k:Nat) (v':Value),k≤64∧i= .int .i64 k∧v'=v∧ae (wr.ownsRow w.heap.size 5 1 v' k ((cz k c).map bv))∧ae (Below w.heap.size w wr)) (λ_ i _=>64-(intOf i).toNat)
 case atStart=>exact⟨0,_,by omega,rfl,rfl,World.ownsRow_made w #[] 0 (di _) (Nat.zero_le _) rfl,(bZ _ _).alloc (di _) _⟩
 case round=>
  obtain⟨k,v,hk,rfl,hv,hO,hW⟩:=hrel;subst hv
  by_cases dN:k<64
  ·have sM:(k:Int)<64:=by omega
   have fW:bj (wr.alloc (.cells #[.int .u8 (c.toNat:Int)] 5)) (some ⟨wr.heap.size,0,none⟩) 1 [c]:=jK _ [c] wr.heap.size _ _ _ (eC wr _) rfl;obtain⟨v4,w4,km,iw,Bj⟩:=cI (wr.alloc (.cells #[.int .u8 (c.toNat:Int)] 5)) w.heap.size v k _ (hO.out.alloc _) ⟨wr.heap.size,0,none⟩ 1 1 [c] fW (by have:=hW.out.size;simp;omega) (by omega);rw[DW] at iw;have DB:ae (w4.ownsRow w.heap.size 5 1 v4 (k+1) ((cz (k+1) c).map bv)):=iw;have Ci:ae (Below w.heap.size w w4):=(hW.out.alloc hW.out.size _).grown Bj (by have:=hW.out.size;simp;omega) (λj hj=>(hO.out.lt j hj).1);have xM:ae ((Builtin.append_ #[22,22] 22 #[v,.slice (some ⟨wr.heap.size,0,none⟩) 1 1]).run prog (wr.alloc (.cells #[.int .u8 (c.toNat:Int)] 5))= .ok v4 w4):=km;clear km iw Bj fW hO hW
   go_wp2_with (at_builtin;refine ao rfl (.tmp 10) (.tmp 12) 22 rfl _ _ _ _ rfl rfl xM.o ?_)
   exact⟨⟨k+1,v4,by omega,by go_num,rfl,DB,Ci⟩,by simp[intOf];omega⟩
  ·have ek:k=64:=by omega
   have sM:¬(k:Int)<64:=by omega
   have DB:ae (wr.ownsRow w.heap.size 5 1 v 64 ((rh c).map bv)):=by rw[ek] at hO;exact hO
   clear hO
   go_wp2
   go_ret
   exact⟨v,rfl,hW.out,DB.o⟩
structure KP (w:aw)(a:bW)(n cap:Nat)(l:aO)(W:aw):Prop where
 Rb:dJ W 5 a n cap (l.map bv)
 DU:∀j,bL a=some j→w.heap.size≤j
 aY:Below w.heap.size w W
theorem KP.app {w W:aw}{a:bW}{n cap:Nat}{l:aO}(t:KP w a n cap l W)(hn:n≤1000):
  ∃a' cK w2,(Builtin.append_ #[22,22] 22 #[.slice a n cap,.slice (some ⟨W.heap.size,0,none⟩) 1 1]).run prog (W.alloc (.cells #[.int .u8 0] 5))= .ok (.slice a' (n+1) cK) w2∧KP w a' (n+1) cK (l++[0]) w2:=by
 obtain⟨i0,hi,uf,pH,uZ⟩:=info_parts Tryz.infoU8;obtain⟨a',cK,w2,jS,iJ,cL,Mp,abV⟩:=oh (P:=prog) 22 22 5 i0 (.int .u8 0) 1 underlying22 hi uf pH uZ rfl W a n cap _ t.Rb (bv 0) rfl (by unfold maxLen;omega) (by omega);refine⟨a',cK,w2,jS,by rw[List.map_append];exact iJ,?_,t.aY.grown cL t.aY.size t.DU⟩;intro j hj
 rcases Mp with e|e
 ·exact t.DU j (by rw[←e];exact hj)
 ·have:=e j hj;have:=t.aY.size;omega
theorem dJ.Ic {w:aw}{e:TypeId}{a:bW}{n cap:Nat}{vs:bK}(h:dJ w e a n cap vs):n≤cap:=by rcases h.2 with⟨_,h1,h2⟩|⟨_,_,_,_,_,_,h0,_⟩<;>omega
theorem KP.later {w W W':aw}{a:bW}{n cap:Nat}{l:aO}(t:KP w a n cap l W)(hb:Below W.heap.size W W'):KP w a n cap l W':=
 ⟨t.Rb.later hb,t.DU,t.aY.trans (hb.mono t.aY.size)⟩
theorem uK (a:bW)(iY qx:Nat)(key:aO)(b:bW)(dZ gV:Nat)(bl:aO)(w:aw)(hK:bj w a iY key)(DP:a=none→qx=0)(Hc:iY≤5000)(C8:iY≤qx)(hB:bj w b dZ bl)(vv:b=none→gV=0)(O7:dZ≤5000)(yQ:dZ≤gV):
  Calls prog 96 #[.slice a iY qx,.slice b dZ gV] w λe w'=>∃a' cK,e= .returned (.slice a' 32 cK)∧Below w.heap.size w w'∧dJ w' 5 a' 32 cK ((nR key bl).map bv)∧∀j,bL a'=some j→w.heap.size≤j:=by
 have AB:=hK.1;have HB:ae (bj w b dZ bl):=hB;obtain⟨a2,Fh,w2,jS,iJ,cM,Qn⟩:=aaz w a iY qx key hK DP (by omega);have YF:ae (KP w a2 iY Fh key w2):=⟨iJ,Qn,cM⟩;have gM:ae ((Builtin.append_ #[22,22] 22 #[.slice (some ⟨w.heap.size,0,none⟩) 0 0,.slice a iY qx]).run prog (w.alloc (.cells #[] 5))= .ok (.slice a2 iY Fh) w2):=jS;clear jS iJ cM Qn hK hB;have hks:=xE key
 by_cases Gj:64<iY
 case' pos=>
  have hli:(64:Int)<(iY:Int):=by omega
  have eks:dH key=dc key:=by unfold dH;rw[if_pos (by omega)]
  have UI:(dH key).length=32:=by rw[eks,eM]
  have ahJ:a2=none→Fh=0:=λe=>by
   rcases YF.o.Rb.2 with⟨_,h0,_⟩|⟨_,_,_,e2,_⟩
   ·omega
   ·rw[e] at e2;cases e2
  go_enter func96,ntmps96
  go_wp2_with (at_builtin;refine ao rfl (.tmp 7) (.tmp 8) 22 rfl _ _ _ _ rfl rfl gM.o ?_)
  clear gM;refine(j7 a2 iY Fh key w2 (bj.gS YF.o.Rb) ahJ (by omega) YF.o.Rb.Ic).mono ?_;rintro e w3 ⟨a3,c3,rfl,eZ,ur,Cj⟩;have Z6:ae (KP w a3 32 c3 (dH key++cz (32-(dH key).length) 0) w3):=by rw[UI,Nat.sub_self,List.replicate_zero,List.append_nil,eks];exact⟨ur,λj hj=>kx YF.o.aY.size (Cj j hj),YF.o.aY.trans (eZ.mono YF.o.aY.size)⟩
  clear eZ ur Cj YF eks
  go_wp2
 case' neg=>
  have hli:¬(64:Int)<(iY:Int):=by omega
  have eks:dH key=key:=by unfold dH;rw[if_neg (by omega)]
  have UI:(dH key).length=iY:=by rw[eks,AB]
  go_enter func96,ntmps96
  have Z6:ae (KP w a2 iY Fh (dH key++cz (iY-(dH key).length) 0) w2):=by rw[UI,Nat.sub_self,List.replicate_zero,List.append_nil,eks];exact YF
  clear YF eks
  go_wp2_with (at_builtin;refine ao rfl (.tmp 7) (.tmp 8) 22 rfl _ _ _ _ rfl rfl gM.o ?_)
  clear gM
 all_goals
  go_loopw [5] (λv wr=>∃(n:Nat) (a':bW) (c':Nat),v= .slice a' n c'∧(dH key).length≤n∧n≤64∧ae (KP w a' n c' (dH key++cz (n-(dH key).length) 0) wr)) (λv _=>64-lenOf v)
  case atStart=>exact⟨_,_,_,rfl,by omega,by omega,Z6⟩
  case round=>
   clear Z6;obtain⟨n,a3,c3,rfl,s9,tL,hP⟩:=hrel
   by_cases hn:n<64
   ·have Un:(n:Int)<64:=by omega
    obtain⟨a4,c4,w4,km,hP4⟩:=hP.out.app (by omega);have Yz:ae (KP w a4 (n+1) c4 (dH key++cz (n+1-(dH key).length) 0) w4):=by
     have e:dH key++cz (n+1-(dH key).length) 0=dH key++cz (n-(dH key).length) 0++[0]:=by rw[show n+1-(dH key).length=(n-(dH key).length)+1 by omega,List.replicate_succ',List.append_assoc]
     rw[e];exact hP4
    have xM:ae _:=km;clear km hP4 hP
    go_wp2_with (at_builtin;refine ao rfl (.tmp 18) (.tmp 19) 22 rfl _ _ _ _ rfl rfl xM.o ?_)
    exact⟨⟨n+1,a4,c4,rfl,by omega,by omega,Yz⟩,by show 64-(n+1)<64-n;omega⟩
   ·have L7:n=64:=by omega
    have Un:¬(n:Int)<64:=by omega
    have hP':KP w a3 64 c3 (nQ key) wr:=by have:=hP.out;rw[L7] at this;exact this
    subst L7;have HP:ae (KP w a3 64 c3 (nQ key) wr):=hP';clear hP hP';have OU:ae (bj wr b dZ bl):=HB.o.later HP.o.aY
    go_wp2_with fail
    refine(uJ 0x36 wr).mono ?_;rintro e w5 ⟨v5,rfl,iE,ho5⟩;obtain⟨a5,c5,rfl,sP,Nu,Rc,Gp⟩:=bq ho5;have Po:ae (KP w a3 64 c3 (nQ key) w5):=HP.o.later iE;have nY:ae (bj w5 a5 64 (rh 0x36)):=sP;have Nv:ae (bj w5 b dZ bl):=OU.o.later iE;clear iE ho5 sP HP OU
    go_wp2_with fail
    refine(uI a3 a5 64 c3 64 c5 (nQ key) (rh 0x36) w5 (bj.gS Po.o.Rb) nY.o (by omega) (by omega)).mono ?_;rintro e w6 ⟨v6,rfl,lZ,L8⟩;obtain⟨v7,w7,zw,ho7,He⟩:=bx w6 w5.heap.size v6 (min 64 64) _ L8 b dZ gV bl (Nv.o.later lZ) vv (by have:=lZ.size;omega) (by omega);obtain⟨a7,c7,rfl,yj,acJ,amf,UJ⟩:=bq ho7;have DX:Below w5.heap.size w5 w7:=lZ.grown He lZ.size (λk hk=>(L8.lt k hk).1);have WN:ae (KP w a3 64 c3 (nQ key) w7):=Po.o.later DX;have Cn:ae (bj w7 a7 (64+dZ) (RY key bl)):=yj;have acK:ae (bj w7 b dZ bl):=Nv.o.later DX;have I8:ae ((Builtin.append_ #[22,22] 22 #[v6,.slice b dZ gV]).run prog w6= .ok (.slice a7 (64+dZ) c7) w7):=zw;clear zw ho7 He yj DX lZ L8 Po nY Nv
    go_wp2_with (at_builtin;refine ao rfl (.tmp 23) (.tmp 24) 22 rfl _ _ _ _ rfl rfl I8.o ?_)
    clear I8;refine(j7 a7 (64+dZ) c7 (RY key bl) w7 Cn.o UJ (by omega) acJ).mono ?_;rintro e w8 ⟨a8,c8,rfl,i9,jm,hk8⟩;have HP8:ae (KP w a3 64 c3 (nQ key) w8):=WN.o.later i9;have J2:ae (dJ w8 5 a8 32 c8 ((dc (RY key bl)).map bv)):=jm;clear i9 jm hk8 WN Cn acK
    go_wp2_with fail
    refine(uJ 0x5c w8).mono ?_;rintro e w9 ⟨v9,rfl,Hj,ho9⟩;obtain⟨a9,c9,rfl,T',amg,amh,ahQ⟩:=bq ho9;have YG:ae (KP w a3 64 c3 (nQ key) w9):=HP8.o.later Hj;have Pd:ae (bj w9 a9 64 (rh 0x5c)):=T';have DL:ae (dJ w9 5 a8 32 c8 ((dc (RY key bl)).map bv)):=J2.o.later Hj;clear Hj ho9 T' HP8 J2
    go_wp2_with fail
    refine(uI a3 a9 64 c3 64 c9 (nQ key) (rh 0x5c) w9 (bj.gS YG.o.Rb) Pd.o (by omega) (by omega)).mono ?_;rintro e L0 ⟨v10,rfl,ym,Nw⟩;have Kd:a8=none→c8=0:=λe=>by
     rcases DL.o.2 with⟨_,h0,_⟩|⟨_,_,_,e2,_⟩
     ·omega
     ·rw[e] at e2;cases e2
    obtain⟨v11,DD,Bx,UK,K5⟩:=bx L0 w9.heap.size v10 (min 64 64) _ Nw a8 32 c8 (dc (RY key bl)) (bj.gS (DL.o.later ym)) Kd (by have:=ym.size;omega) (by omega);obtain⟨WG,Fy,rfl,UL,UM,ahR,Ny⟩:=bq UK;have DY:Below w9.heap.size w9 DD:=ym.grown K5 ym.size (λk hk=>(Nw.lt k hk).1);have DZ:ae (Below w.heap.size w DD):=(YG.o.later DY).aY;have UN:ae (bj DD WG 96 (P7 key bl)):=UL;have Nz:ae ((Builtin.append_ #[22,22] 22 #[v10,.slice a8 32 c8]).run prog L0= .ok (.slice WG 96 Fy) DD):=Bx;clear Bx UK K5 UL DY ym Nw YG Pd DL
    go_wp2_with (at_builtin;refine ao rfl (.tmp 29) (.tmp 30) 22 rfl _ _ _ _ rfl rfl Nz.o ?_)
    clear Nz;refine(j7 WG 96 Fy (P7 key bl) DD UN.o Ny (by omega) UM).mono ?_;rintro e w12 ⟨a12,EZ,rfl,zO,Ia,UO⟩;have acM:ae (dJ w12 5 a12 32 EZ ((nR key bl).map bv)):=Ia;have acN:ae (Below w.heap.size w w12):=DZ.o.trans (zO.mono DZ.o.size);have acO:ae (∀j,bL a12=some j→w.heap.size≤j):=λj hj=>kx DZ.o.size (UO j hj);clear zO Ia UO DZ UN
    go_wp2
    go_ret
    exact⟨a12,EZ,rfl,acN.o,acM.o,acO.o⟩
theorem K6 (w:aw)(a:bW)(len cap:Nat)(l:aO)(hS:bj w a len l)(rk:a=none→cap=0)(hm:len≤5000)(x:UInt8):
  ∃v3 w3 v4 w4,(Builtin.append_ #[22,22] 22 #[.slice (some ⟨w.heap.size,0,none⟩) 0 0,.slice a len cap]).run prog (w.alloc (.cells #[] 5))= .ok v3 w3∧
   (Builtin.append_ #[22,22] 22 #[v3,.slice (some ⟨w3.heap.size,0,none⟩) 1 1]).run prog (w3.alloc (.cells #[.int .u8 (x.toNat:Int)] 5))= .ok v4 w4∧w4.ownsRow w.heap.size 5 1 v4 (len+1) ((l++[x]).map bv)∧Below w.heap.size w w4:=by
 have ik:Below w.heap.size w (w.alloc (.cells #[] 5)):=eF;obtain⟨v3,w3,iu,dt,uu⟩:=bx (w.alloc (.cells #[] 5)) w.heap.size (.slice (some ⟨w.heap.size,0,none⟩) 0 0) 0 [] (World.ownsRow_made w #[] 0 (di _) (Nat.zero_le _) rfl) a len cap l (hS.later ik) rk (by simp) (by omega);have vH:Below w.heap.size w w3:=ik.grown uu (by simp) (λk hk=>by simp[Value.ownBlock] at hk;omega);have fW:bj (w3.alloc (.cells #[.int .u8 (x.toNat:Int)] 5)) (some ⟨w3.heap.size,0,none⟩) 1 [x]:=jK _ [x] w3.heap.size _ _ _ (eC w3 _) rfl;obtain⟨v4,w4,km,iw,Bj⟩:=cI (w3.alloc (.cells #[.int .u8 (x.toNat:Int)] 5)) w.heap.size v3 _ _ (dt.alloc _) ⟨w3.heap.size,0,none⟩ 1 1 [x] fW (by have:=vH.size;simp;omega) (by omega);rw[Nat.zero_add,List.nil_append] at iw;exact⟨v3,w3,v4,w4,iu,km,iw,(vH.alloc vH.size _).grown Bj (by have:=vH.size;simp;omega) (λk hk=>(dt.lt k hk).1)⟩
theorem Cv {w:aw}{a:bW}{cap:Nat}{vs:bK}{n:Nat}(h:dJ w 5 a n cap vs)(hn:0<n):a=none→cap=0:=λe=>by
 rcases h.2 with⟨_,h0,_⟩|⟨_,_,_,e2,_⟩
 ·omega
 ·rw[e] at e2;cases e2
structure DV (w:aw)(at_:bW)(ct:Nat)(t:aO)(W:aw):Prop where
 t:dJ W 5 at_ 32 ct (t.map bv)
 aY:Below w.heap.size w W
theorem DV.later {w W W':aw}{a:bW}{c:Nat}{t:aO}(h:DV w a c t W)(hb:Below W.heap.size W W'):DV w a c t W':=⟨h.t.later hb,h.aY.trans (hb.mono h.aY.size)⟩
theorem xW (a:bW)(iY qx:Nat)(key:aO)(b:bW)(dZ gV:Nat)(bl:aO)(w:aw)(hK:bj w a iY key)(DP:a=none→qx=0)(Hc:iY≤5000)(C8:iY≤qx)(hB:bj w b dZ bl)(vv:b=none→gV=0)(O7:dZ≤5000)(yQ:dZ≤gV):
  Calls prog 67 #[.slice a iY qx,.slice b dZ gV] w λe w'=>∃v,e= .returned v∧Below w.heap.size w w'∧w'.ownsRow w.heap.size 5 1 v 96 ((gH key bl++nS key bl++CS key bl).map bv):=by
 have HK:ae (bj w a iY key):=hK;have HB:ae (bj w b dZ bl):=hB;clear hK hB
 go_enter func67,ntmps67
 go_wp2_with fail
 refine(uK a iY qx key b dZ gV bl w HK.o DP Hc C8 HB.o vv O7 yQ).mono ?_;rintro e w1 ⟨a1,c1,rfl,ck,jF,WB⟩;obtain⟨t,ht⟩:=aW (nR key bl);obtain⟨d1,rb⟩:∃d,gH key bl=d:=⟨_,rfl⟩;obtain⟨d2,xi⟩:∃d,nS key bl=d:=⟨_,rfl⟩;obtain⟨d3,K7⟩:∃d,CS key bl=d:=⟨_,rfl⟩;have m1:nR t [1]=d1:=by rw[←rb,gH,ht]
 have m2:nR t (d1++[2])=d2:=by rw[←xi,nS,ht,rb]
 have m3:nR t (d2++[3])=d3:=by rw[←K7,CS,ht,xi]
 have HD:ae (gH key bl++nS key bl++CS key bl=d1++d2++d3):=by show _=_;rw[rb,xi,K7]
 rw[ht] at jF;clear ht rb xi K7;have pY:ae (DV w a1 c1 t w1):=⟨jF,ck⟩;have s9:=Cv jF (by omega);have gi:=jF.Ic;clear ck jF WB;have ahS:bj (w1.alloc (.cells #[.int .u8 1] 5)) (some ⟨w1.heap.size,0,none⟩) 1 [1]:=jK _ [1] w1.heap.size _ _ _ (eC w1 _) rfl;have HL:ae (bj (w1.alloc (.cells #[.int .u8 1] 5)) (some ⟨w1.heap.size,0,none⟩) 1 [1]):=ahS;have acP:ae (DV w a1 c1 t (w1.alloc (.cells #[.int .u8 1] 5))):=pY.o.later eF;clear ahS
 go_wp2_with fail
 refine(uK a1 32 c1 t (some ⟨w1.heap.size,0,none⟩) 1 1 [1] _ (bj.gS acP.o.t) s9 (by omega) gi HL.o (λe=>by cases e) (by omega) (by omega)).mono ?_;rintro e w2 ⟨a2,c2,rfl,cM,iJ,hk2⟩;have NA:dJ w2 5 a2 32 c2 ((d1).map bv):=by rw[←m1];exact iJ
 have vI:ae (DV w a1 c1 t w2):=acP.o.later cM;have nW:ae (dJ w2 5 a2 32 c2 ((d1).map bv)):=NA;have tL:=Cv NA (by omega);clear cM iJ NA hk2 pY acP HL;obtain⟨v3,w3,v4,w4,iu,km,ho4,js⟩:=K6 w2 a2 32 c2 _ (bj.gS nW.o) tL (by omega) 2;obtain⟨a4,c4,rfl,TO,hc4,_,RZ⟩:=bq ho4;have lO:ae (DV w a1 c1 t w4):=vI.o.later js;have DB:ae (dJ w4 5 a2 32 c2 ((d1).map bv)):=nW.o.later js;have BV:ae (bj w4 a4 33 (d1++[2])):=TO;have py:ae _:=iu;have xM:ae ((Builtin.append_ #[22,22] 22 #[v3,.slice (some ⟨w3.heap.size,0,none⟩) 1 1]).run prog (w3.alloc (.cells #[.int .u8 2] 5))= .ok (.slice a4 33 c4) w4):=km;clear iu km ho4 js TO vI nW
 go_wp2_with (at_builtin;first|refine ao rfl (.tmp 16) (.tmp 17) 22 rfl _ _ _ _ rfl rfl py.o ?_|refine ao rfl (.tmp 18) (.tmp 19) 22 rfl _ _ _ _ rfl rfl xM.o ?_)
 clear py xM;refine(uK a1 32 c1 t a4 33 c4 (d1++[2]) w4 (bj.gS lO.o.t) s9 (by omega) gi BV.o RZ (by omega) hc4).mono ?_;rintro e w5 ⟨a5,c5,rfl,iE,EV,hk5⟩;have acQ:dJ w5 5 a5 32 c5 ((d2).map bv):=by rw[←m2];exact EV
 have Ck:ae (DV w a1 c1 t w5):=lO.o.later iE;have tu:ae (dJ w5 5 a2 32 c2 ((d1).map bv)):=DB.o.later iE;have HQ5:ae (dJ w5 5 a5 32 c5 ((d2).map bv)):=acQ;have LN:=Cv acQ (by omega);clear iE EV acQ hk5 lO DB BV;obtain⟨v6,w6,v7,w7,UP,zw,ho7,yi⟩:=K6 w5 a5 32 c5 _ (bj.gS HQ5.o) LN (by omega) 3;obtain⟨a7,c7,rfl,yj,Rd,_,J1⟩:=bq ho7;have HT7:ae (DV w a1 c1 t w7):=Ck.o.later yi;have Fq:ae (dJ w7 5 a2 32 c2 ((d1).map bv)):=tu.o.later yi;have HQ7:ae (dJ w7 5 a5 32 c5 ((d2).map bv)):=HQ5.o.later yi;have Cn:ae (bj w7 a7 33 (d2++[3])):=yj;have HA6:ae _:=UP;have I8:ae ((Builtin.append_ #[22,22] 22 #[v6,.slice (some ⟨w6.heap.size,0,none⟩) 1 1]).run prog (w6.alloc (.cells #[.int .u8 3] 5))= .ok (.slice a7 33 c7) w7):=zw;clear UP zw ho7 yi yj Ck tu HQ5
 go_wp2_with (at_builtin;first|refine ao rfl (.tmp 23) (.tmp 24) 22 rfl _ _ _ _ rfl rfl HA6.o ?_|refine ao rfl (.tmp 25) (.tmp 26) 22 rfl _ _ _ _ rfl rfl I8.o ?_)
 clear HA6 I8;refine(uK a1 32 c1 t a7 33 c7 (d2++[3]) w7 (bj.gS HT7.o.t) s9 (by omega) gi Cn.o J1 (by omega) Rd).mono ?_;rintro e w8 ⟨a8,c8,rfl,i9,jm,hk8⟩;have acR:dJ w8 5 a8 32 c8 ((d3).map bv):=by rw[←m3];exact jm
 have Tp:=Cv acR (by omega);have hW8:Below w.heap.size w w8:=(HT7.o.later i9).aY;have F6:=Fq.o.later i9;have hQ8:=HQ7.o.later i9;have ik:Below w8.heap.size w8 (w8.alloc (.cells #[] 5)):=eF;obtain⟨v9,w9,T9,DC,AL⟩:=bx (w8.alloc (.cells #[] 5)) w8.heap.size (.slice (some ⟨w8.heap.size,0,none⟩) 0 0) 0 [] (World.ownsRow_made w8 #[] 0 (di _) (Nat.zero_le _) rfl) a2 32 c2 _ (bj.gS (F6.later ik)) tL (by simp) (by omega);rw[Nat.zero_add,List.nil_append] at DC;have UQ:Below w8.heap.size w8 w9:=ik.grown AL (by simp) (λk hk=>by simp[Value.ownBlock] at hk;omega);obtain⟨v10,L0,aaB,zP,ahU⟩:=bx w9 w8.heap.size v9 _ _ DC a5 32 c5 _ (bj.gS (hQ8.later UQ)) LN UQ.size (by omega);have K8:Below w8.heap.size w8 L0:=UQ.grown ahU UQ.size (λk hk=>(DC.lt k hk).1);obtain⟨v11,DD,Bx,aaC,K5⟩:=bx L0 w8.heap.size v10 _ _ zP a8 32 c8 _ (bj.gS (acR.later K8)) Tp K8.size (by omega);have aaD:Below w8.heap.size w8 DD:=K8.grown K5 K8.size (λk hk=>(zP.lt k hk).1);have Re:ae (DD.ownsRow w.heap.size 5 1 v11 96 ((d1++d2++d3).map bv)):=bQ aaC hW8.size;have DZ:ae (Below w.heap.size w DD):=hW8.trans (aaD.mono hW8.size);have HA9:ae _:=T9;have amj:ae _:=aaB;have Nz:ae _:=Bx;clear T9 aaB Bx DC zP aaC AL ahU K5 UQ K8 aaD ik hQ8 F6 hW8 jm acR i9 hk8 HT7 Fq HQ7 Cn
 go_wp2_with (at_builtin;first|refine ao rfl (.tmp 29) (.tmp 30) 22 rfl _ _ _ _ rfl rfl HA9.o ?_|refine ao rfl (.tmp 31) (.tmp 32) 22 rfl _ _ _ _ rfl rfl amj.o ?_|refine ao rfl (.tmp 33) (.tmp 34) 22 rfl _ _ _ _ rfl rfl Nz.o ?_)
 go_ret
 exact⟨v11,rfl,DZ.o,by rw[HD.o];exact Re.o⟩
def digits:aO:=[49,50,51,52,53,54,55,56,57]
theorem ke.alloc {w:aw}(h:ke w)(o:Obj):ke (w.alloc o):=h.later eF
theorem acS (key bl K I R:aO)(hK:nQ key=K)(hI:dc (kU K (rh 0x36)++bl)=I)(hR:dc (kU K (rh 0x5c)++I)=R):nR key bl=R:=by unfold nR P7 RY;rw[hK,hI,hR]
structure Mk (w:aw)(n:Nat)(W:aw):Prop where
 res:W.heap[w.heap.size+n]?=some (.cells aV 24 (0,0))
 aY:Below w.heap.size w W
theorem Mk.later {w W W':aw}{n:Nat}(x:Mk w n W)(hb:Below W.heap.size W W'):Mk w n W':=
 ⟨by rw[hb.block _ (gD.1 x.res).1];exact x.res,x.aY.trans (hb.mono x.aY.size)⟩
theorem Pp (a:bW)(iY qx:Nat)(key:aO)(b:bW)(dZ gV:Nat)(bl:aO)(w:aw)(hK:bj w a iY key)(DP:a=none→qx=0)(Hc:iY≤5000)(C8:iY≤qx)(acr:qx≤maxLen)(hB:bj w b dZ bl)(vv:b=none→gV=0)(O7:dZ≤5000)(yQ:dZ≤gV)(UA:gV≤maxLen)(ec:ke w):
  Calls prog 94 #[.slice a iY qx,.slice b dZ gV] w λe w'=>e= .returned (.agg ((nR key bl).map bv).toArray)∧Below w.heap.size w w':=by
 obtain⟨K,hKe⟩:=aW (nQ key);have hKl:K.length=64:=by rw[←hKe,Bb]
 obtain⟨I,hI⟩:=aW (dc (kU K (rh 0x36)++bl));have hIl:I.length=32:=by rw[←hI,eM]
 obtain⟨R,hR⟩:=aW (dc (kU K (rh 0x5c)++I));have wA:R.length=32:=by rw[←hR,eM]
 rw[acS key bl K I R hKe hI hR];have HKe:ae (nQ key=K):=hKe;have HI:ae (dc (kU K (rh 0x36)++bl)=I):=hI;have HR:ae (dc (kU K (rh 0x5c)++I)=R):=hR;have IK:ae ((prog.info? 163).map (·.size)=some (K.map bv).toArray.size):=cW (n:=64) (by kernel_rfl) K hKl;have IR:ae ((prog.info? 24).map (·.size)=some (R.map bv).toArray.size):=cW (n:=32) (by kernel_rfl) R wA;have dG:ae (ke w):=ec;have HK:ae (bj w a iY key):=hK;have HB:ae (bj w b dZ bl):=hB;have EX:ae (Mk w 0 (w.alloc (.cells aV 24))):=⟨eC w _,(bZ _ _).alloc (di _) _⟩;clear hKe hI hR hK hB ec
 go_enter func94,ntmps94
 go_wp2_with fail
 refine bY (P:=λW=>Calls prog 123 _ W _) (R:=λW=>ae (Mk w 0 W)) _ EX ?_;intro W0 Cs;clear EX;refine(Q6 a iY qx key W0 (HK.o.later Cs.o.aY) DP Hc C8 acr (dG.o.later Cs.o.aY)).mono ?_;rintro e w1 ⟨rfl,ck⟩;rw[HKe.o];have xA:=cJ w1 163 K 64 hKl (by kernel_rfl) l9 (by kernel_rfl);have Pq:=dz.new w1 163 K;have wz:=(Cs.o.later ck).later ((bZ _ _).alloc (di _) (.cells (K.map bv).toArray 163));obtain⟨W2,fV⟩:=aW (w1.alloc (.cells (K.map bv).toArray 163));rw[fV] at xA Pq wz;simp only[l9,cz] at xA;have LY:ae (Mk w 0 W2):=wz;have gM:ae (dz W2 w1.heap.size 163 K):=Pq;have vI:ae (ke W2):=dG.o.later wz.aY;have sO:ae (bj W2 b dZ bl):=HB.o.later wz.aY;clear wz Pq fV ck Cs HK HB dG HKe
 go_wp2_with (first|(refine wpList_load_row rfl 163 _ rfl w1.heap.size rfl 163 _ (0,0) _ gM.o underlying163 rfl IK.out ?_))
 have hs:=KU K hKl 0x36 b dZ gV bl W2 sO.o vv O7 yQ UA vI.o;refine hs.mono ?_;clear hs xA;generalize w1.heap.size=g at*
 rintro e w3 ⟨rfl,eZ⟩;rw[HI.o];have xA:=cJ w3 24 I 32 hIl (by kernel_rfl) aV (by kernel_rfl);have fe:Below W2.heap.size W2 (w3.alloc (.cells (I.map bv).toArray 24)):=eZ.alloc eZ.size _;have UR:=dz.new w3 24 I;obtain⟨W4,fj⟩:=aW (w3.alloc (.cells (I.map bv).toArray 24));rw[fj] at xA UR fe;simp only[aV,cz] at xA;have hdr:Below W2.heap.size W2 W4.drew:=fe.drew;have ahV:Below W4.heap.size W4 W4.drew:=gl;have OY:ae (dz W4.drew w3.heap.size 24 I):=UR.later ahV;have LZ:ae (Mk w 0 W4.drew):=LY.o.later hdr;have Po:ae (dz W4.drew g 163 K):=gM.o.later hdr;have Ck:ae (ke W4.drew):=vI.o.later hdr;clear hdr ahV UR fj fe eZ LY gM vI sO
 go_wp2_with fail
 clear xA;generalize w3.heap.size=g3 at*
 obtain⟨W,kY⟩:=aW (W4.drew);have ij:ae (W4.drew=W):=kY;rw[kY] at OY LZ Po Ck;clear kY;refine ah (G:=bM) (by kernel_rfl) bM.refl bM.trans (by kernel_rfl) [(0,true),(1,true),(2,false),(3,false)] rfl (by kernel_rfl) ?_;intro KK cA;rw[ij.o];clear ij;refine aa rfl (by rfl) (v:=.agg (K.map bv).toArray) (λw' hw'=>ar 163 _ rfl g rfl 163 _ (0,0) _ (Po.o.later hw') underlying163 rfl IK.out) ?_;go_simp
 refine aa rfl (by rfl) (v:=.slice (some ⟨g3,0,none⟩) 32 32) (λw' hw'=>by clear hw';go_simp) ?_;go_simp
 refine aU (f:=124) (args:=#[.agg (K.map bv).toArray,.int .u8 92,.slice (some ⟨g3,0,none⟩) 32 32]) rfl (by rfl) (by go_simp) ?_;have hs:=KU K hKl 0x5c (some ⟨g3,0,none⟩) 32 32 I W (OY.o.nw 32 hIl) (λe=>by cases e) (by omega) (di _) (by unfold maxLen;omega) Ck.o;refine hs.mono ?_;clear hs;rintro e w6 ⟨rfl,lZ⟩;refine⟨_,rfl,lZ,?_⟩;rw[HR.o];have T7:=LZ.o.later lZ;have xA:=aL w6 w.heap.size _ _ (R.map bv) T7.res (by simp[wA,aV]) (bd R);have bh:=setRow_heap w6 w.heap.size _ (R.map bv).toArray _ _ T7.res;have bR:ae (Below w.heap.size w (w6.setRow w.heap.size (R.map bv).toArray)):=below_setRow T7.aY (di _) _;obtain⟨W7,Qj⟩:=aW (w6.setRow w.heap.size (R.map bv).toArray);rw[Qj] at xA bh bR;have cY:ae (W7.heap[w.heap.size]?=some (.cells (R.map bv).toArray 24 (0,0))):=bh;clear bh Qj T7 lZ LZ OY Po Ck;go_simp
 refine bp rfl (by rfl) (w':=W7) (by go_simp) (by kernel_rfl) ?_;clear xA;go_simp
 refine az cA ?_
 (try go_wp2)
 (try simp only[nu,Exit.then])
 refine bodyPost_ret (results_cell_row rfl _ _ w.heap.size 24 _ (0,0) _ rfl cY.o underlying24 rfl IR.out) rfl ?_;exact⟨rfl,bR.o⟩
structure Nx (w:aw)(t:aO)(W:aw):Prop where
 t:dz W w.heap.size 24 t
 res:W.heap[w.heap.size+1]?=some (.cells aV 24 (0,0))
 aY:Below w.heap.size w W
 size:w.heap.size+1+1≤W.heap.size
theorem Nx.new (w:aw)(t:aO):Nx w t ((w.alloc (.cells (t.map bv).toArray 24)).alloc (.cells aV 24)):=by have h0:=dz.new w 24 t;have h1:=eC (w.alloc (.cells (t.map bv).toArray 24)) (.cells aV 24);rw[fx] at h1;exact⟨h0.later eF,h1,eF.alloc (by simp) _,by simp⟩
theorem Nx.on {w W W':aw}{t:aO}(x:Nx w t W)(hb:Below (w.heap.size+1+1) W W'):Nx w t W':=
 ⟨x.t.below hb (by omega),by rw[hb.block _ (by omega)];exact x.res,x.aY.trans (hb.mono (by omega)),kx x.size hb.size⟩
theorem Nx.later {w W W':aw}{t:aO}(x:Nx w t W)(hb:Below W.heap.size W W'):Nx w t W':=x.on (hb.mono x.size)
theorem tx (t:aO)(ht:t.length=32)(a:bW)(dZ gV:Nat)(bl:aO)(n:UInt8)(w:aw)(hB:bj w a dZ bl)(vv:a=none→gV=0)(O7:dZ≤4000)(ec:ke w):
  Calls prog 95 #[.agg (t.map bv).toArray,.slice a dZ gV,.int .u8 (n.toNat:Int)] w λe w'=>e= .returned (.agg ((nR t (bl++[n])).map bv).toArray)∧Below w.heap.size w w':=by
 obtain⟨R,hR⟩:=aW (nR t (bl++[n]));have wA:R.length=32:=by rw[←hR,cS]
 rw[hR];have HR:ae (nR t (bl++[n])=R):=hR;have IR:ae ((prog.info? 24).map (·.size)=some (R.map bv).toArray.size):=cW (n:=32) (by kernel_rfl) R wA;have dG:ae (ke w):=ec;have kW:=hB.1;have HB:ae (bj w a dZ bl):=hB;obtain⟨m0,Hw⟩:=aW (dZ+1);have e1:(dZ:Int)+1=(m0:Int):=by omega
 obtain⟨W0,gK⟩:=aW ((w.alloc (.cells (t.map bv).toArray 24)).alloc (.cells aV 24));have ny:Nx w t W0:=by rw[←gK];exact Nx.new w t
 have DA:W0.heap.size=w.heap.size+1+1:=by rw[←gK];simp
 obtain⟨Z,hZ,vD⟩:=Aq W0 m0 (by omega);have tj:(W0.alloc (.cells Z.toArray 5)).ownsRow (w.heap.size+1+1) 5 1 (.slice (some ⟨W0.heap.size,0,none⟩) 0 m0) 0 (([]:aO).map bv):=
  World.ownsRow_made (base:=w.heap.size+1+1) (e:=5) (size:=1) W0 Z.toArray m0 (by omega) (by unfold maxLen;omega) (by simp[hZ])
 have jb:Nx w t (W0.alloc (.cells Z.toArray 5)):=ny.later ((bZ _ _).alloc (by omega) _);obtain⟨W1,fg⟩:=aW (W0.alloc (.cells Z.toArray 5));rw[fg] at tj jb vD;rw[DA] at tj vD;obtain⟨v2,w2,nD,cZ,kj⟩:=bx W1 (w.heap.size+1+1) _ 0 _ tj a dZ gV bl (HB.o.later jb.aY) vv jb.size (by omega);rw[Nat.zero_add,List.nil_append] at cZ;obtain⟨a2,c2,rfl,_,_,_,_⟩:=bq cZ;have Je:Nx w t w2:=jb.on ((bZ _ _).grown kj jb.size (λk hk=>(tj.lt k hk).1));have gM:ae ((Builtin.append_ #[22,22] 22 #[.slice (some ⟨w.heap.size+1+1,0,none⟩) 0 m0,.slice a dZ gV]).run prog W1= .ok (.slice a2 dZ c2) w2):=nD;have hdr:Below w2.heap.size w2 w2.drew:=gl;have HN3:ae (Nx w t w2.drew):=Je.later hdr;have rO:ae (w2.drew.ownsRow (w.heap.size+1+1) 5 1 (.slice a2 dZ c2) dZ (bl.map bv)):=cZ.drew;rw[←gK] at vD;clear nD cZ kj tj jb fg ny DA hZ Je hdr gK hB ec hR;simp only[aV,cz] at vD
 go_enter func95,ntmps95
 go_wp2_with (at_builtin;refine ao rfl (.tmp 12) (.tmp 13) 22 rfl _ _ _ _ rfl rfl gM.o ?_)
 clear gM vD e1;obtain⟨W,kY⟩:=aW (w2.drew);have ij:ae (w2.drew=W):=kY;rw[kY] at HN3 rO;clear kY;refine ah (G:=λ_ _=>True) (by kernel_rfl) (λ_=>trivial) (λ_ _ _ _ _=>trivial) (by kernel_rfl) [(0,true),(1,true),(2,true),(3,false),(4,false),(5,false),(6,false)] rfl (by kernel_rfl) ?_;intro KK cA;rw[ij.o];clear ij
 iterate 3 (refine aa rfl (by rfl) (v:=?_) ?_ ?_;rotate_left;(intro w' hw';clear hw';go_simp;with_reducible rfl);go_simp)
 refine fZ rfl (by rfl) (v:=.slice (some ⟨W.heap.size,0,none⟩) 1 1) (w':=W.alloc (.cells #[.int .u8 (n.toNat:Int)] 5)) (by go_simp;try rfl) trivial ?_;go_simp
 have fW:bj (W.alloc (.cells #[.int .u8 (n.toNat:Int)] 5)) (some ⟨W.heap.size,0,none⟩) 1 [n]:=jK _ [n] W.heap.size _ _ _ (eC W _) rfl;have iz:Below W.heap.size W (W.alloc (.cells #[.int .u8 (n.toNat:Int)] 5)):=eF;have Np:=HN3.o.later iz;have NC:=rO.o.alloc (.cells #[.int .u8 (n.toNat:Int)] 5);obtain⟨v5,w5,wj,nF,hg5⟩:=cI _ (w.heap.size+1+1) _ dZ _ NC ⟨W.heap.size,0,none⟩ 1 1 [n] fW Np.size (by omega);have Wv:Nx w t w5:=Np.on ((bZ _ _).grown hg5 Np.size (λk hk=>(NC.lt k hk).1));obtain⟨a5,c5,rfl,sP,Nu,Rc,Gp⟩:=bq nF;refine ki (s:=.tmp 16) (x:=.tmp 18) (t:=22) rfl (by rfl) rfl rfl rfl wj trivial ?_;have HN5:ae (Nx w t w5):=Wv;have nY:ae (bj w5 a5 (dZ+1) (bl++[n])):=sP;clear wj nF hg5 fW iz Np NC Wv sP HN3 rO;rw[Hw] at nY Nu⊢;go_simp
 refine aU (f:=94) (args:=#[.slice (some ⟨w.heap.size,0,none⟩) 32 32,.slice a5 m0 c5]) rfl (by rfl) (by go_simp) ?_;refine(Pp (some ⟨w.heap.size,0,none⟩) 32 32 t a5 m0 c5 (bl++[n]) w5 (HN5.o.t.nw 32 ht) (λe=>by cases e) (by omega) (di _) (by unfold maxLen;omega) nY.o Gp (by omega) Nu Rc (dG.o.later HN5.o.aY)).mono ?_;rintro e w6 ⟨rfl,lZ⟩;refine⟨_,rfl,trivial,?_⟩;rw[HR.o];have hN6:=HN5.o.later lZ;have xA:=aL w6 (w.heap.size+1) _ _ (R.map bv) hN6.res (by simp[wA,aV]) (bd R);have bh:=setRow_heap w6 (w.heap.size+1) _ (R.map bv).toArray _ _ hN6.res;have bR:ae (Below w.heap.size w (w6.setRow (w.heap.size+1) (R.map bv).toArray)):=below_setRow hN6.aY (by omega) _;obtain⟨W7,Qj⟩:=aW (w6.setRow (w.heap.size+1) (R.map bv).toArray);rw[Qj] at xA bh bR;have cY:ae (W7.heap[w.heap.size+1]?=some (.cells (R.map bv).toArray 24 (0,0))):=bh;clear bh Qj hN6 lZ HN5 nY dG;go_simp
 refine bp rfl (by rfl) (w':=W7) (by go_simp) (by kernel_rfl) ?_;clear xA;go_simp
 refine az cA ?_
 (try go_wp2)
 (try simp only[nu,Exit.then])
 refine bodyPost_ret (results_cell_row rfl _ _ (w.heap.size+1) 24 _ (0,0) _ rfl cY.o underlying24 rfl IR.out) rfl ?_;exact⟨rfl,bR.o⟩
theorem Fz {P:Program}{fn:Func}{p q r:Tmp}{ty:TypeId}(h:fn.results= #[.cell p ty,.cell q ty,.cell r ty])(tmps:Array Value)(w:aw)(g1 g2 g3:Nat)(t:TypeId)(A B C:Array Value)(d:TypeDesc)
  (hp:tmps.getD p ag= .pointer (some ⟨g1,0,none⟩)) (hq:tmps.getD q ag= .pointer (some ⟨g2,0,none⟩)) (hr:tmps.getD r ag= .pointer (some ⟨g3,0,none⟩))
  (h1:w.heap[g1]?=some (.cells A t (0,0))) (h2:w.heap[g2]?=some (.cells B t (0,0))) (h3:w.heap[g3]?=some (.cells C t (0,0)))
  (hu:P.underlying ty=some d) (hd:(match d with| .struct _| .array _ _=>true|_=>false)=true) (hA:(P.info? ty).map (·.size)=some A.size) (hB:(P.info? ty).map (·.size)=some B.size) (hC:(P.info? ty).map (·.size)=some C.size):
  (results fn tmps).run P w= .ok (.tuple #[.agg A,.agg B,.agg C]) w:=by
 have ND:tmps[p]?.getD ag= .pointer (some ⟨g1,0,none⟩):=by simpa using hp
 have NF:tmps[q]?.getD ag= .pointer (some ⟨g2,0,none⟩):=by simpa using hq
 have ZP:tmps[r]?.getD ag= .pointer (some ⟨g3,0,none⟩):=by simpa using hr
 simp[results,h,ND,NF,ZP,asAddr,run_loadVar_row w g1 t ty A (0,0) d h1 hu hd hA,run_loadVar_row w g2 t ty B (0,0) d h2 hu hd hB,run_loadVar_row w g3 t ty C (0,0) d h3 hu hd hC]
def Far (n:Nat)(w w':aw):Prop:=∀g,n<g→w'.heap[g]?=w.heap[g]?
structure Dv (w:aw)(W:aw):Prop where
 r1:W.heap[w.heap.size+1]?=some (.cells aV 24 (0,0))
 r2:W.heap[w.heap.size+1+1]?=some (.cells aV 24 (0,0))
 r3:W.heap[w.heap.size+1+1+1]?=some (.cells aV 24 (0,0))
 aY:Below w.heap.size w W
theorem Dv.later {w W W':aw}(x:Dv w W)(hb:Below W.heap.size W W'):Dv w W':=
 ⟨by rw[hb.block _ (gD.1 x.r1).1];exact x.r1,by rw[hb.block _ (gD.1 x.r2).1];exact x.r2,by rw[hb.block _ (gD.1 x.r3).1];exact x.r3,x.aY.trans (hb.mono x.aY.size)⟩
theorem Dv.on {B:Nat}{w W W':aw}(x:Dv w W)(hb:Below B W W')(hB:w.heap.size+3<B):Dv w W':=
 ⟨by rw[hb.block _ (by omega)];exact x.r1,by rw[hb.block _ (by omega)];exact x.r2,by rw[hb.block _ (by omega)];exact x.r3,x.aY.trans (hb.mono (by omega))⟩
theorem Dv.lt {w W:aw}(x:Dv w W):w.heap.size+3<W.heap.size:=(gD.1 x.r3).1
theorem Dv.new (w:aw)(key:aO):Dv w ((((w.alloc (.cells (key.map bv).toArray 24)).alloc (.cells aV 24)).alloc (.cells aV 24)).alloc (.cells aV 24))∧
  dz ((((w.alloc (.cells (key.map bv).toArray 24)).alloc (.cells aV 24)).alloc (.cells aV 24)).alloc (.cells aV 24)) w.heap.size 24 key:=by
 obtain⟨W1,fg⟩:=aW (w.alloc (.cells (key.map bv).toArray 24));have b1:Below w.heap.size w W1:=by rw[←fg];exact(bZ _ _).alloc (di _) _
 have s1:W1.heap.size=w.heap.size+1:=by rw[←fg];simp
 have a1:dz W1 w.heap.size 24 key:=by rw[←fg];exact dz.new w _ key
 rw[fg];have h1:=eC W1 (.cells aV 24);obtain⟨W2,fV⟩:=aW (W1.alloc (.cells aV 24));have b2:Below W1.heap.size W1 W2:=by rw[←fV];exact(bZ _ _).alloc (di _) _
 have s2:W2.heap.size=w.heap.size+1+1:=by rw[←fV];simp[s1]
 rw[fV] at h1⊢;have h2:=eC W2 (.cells aV 24);obtain⟨W3,nV⟩:=aW (W2.alloc (.cells aV 24));have b3:Below W2.heap.size W2 W3:=by rw[←nV];exact(bZ _ _).alloc (di _) _
 have s3:W3.heap.size=w.heap.size+1+1+1:=by rw[←nV];simp[s2]
 rw[nV] at h2⊢;have h3:=eC W3 (.cells aV 24);have b4:Below W3.heap.size W3 (W3.alloc (.cells aV 24)):=eF;have b34:=b3.trans (b4.mono b3.size);have ahW:=b2.trans (b34.mono b2.size);rw[s1] at h1;rw[s2] at h2;rw[s3] at h3;refine⟨⟨?_,?_,h3,b1.trans (ahW.mono b1.size)⟩,a1.later ahW⟩
 ·rw[b34.block _ (by omega)];exact h1
 ·rw[b4.block _ (by omega)];exact h2
theorem D0 (key:aO)(b:bW)(dZ gV:Nat)(bl:aO)(w:aw)(hk:key.length=32)(hB:bj w b dZ bl)(vv:b=none→gV=0)(O7:dZ≤5000)(yQ:dZ≤gV)(UA:gV≤maxLen)(ec:ke w):
  Calls prog 65 #[.agg (key.map bv).toArray,.slice b dZ gV] w λe w'=>e= .returned (.tuple #[.agg ((gH key bl).map bv).toArray,.agg ((nS key bl).map bv).toArray,.agg ((CS key bl).map bv).toArray])∧Below w.heap.size w w':=by
 obtain⟨T,hT⟩:=aW (nR key bl);obtain⟨D1,h1⟩:=aW (nR T ([]++[1]));obtain⟨D2,h2⟩:=aW (nR T (D1++[2]));obtain⟨D3,h3⟩:=aW (nR T (D2++[3]));have e1:gH key bl=D1:=by unfold gH;rw[hT];exact h1
 have e2:nS key bl=D2:=by unfold nS;rw[e1,hT];exact h2
 have e3:CS key bl=D3:=by unfold CS;rw[e2,hT];exact h3
 have sS:T.length=32:=by rw[←hT,cS]
 have h1l:D1.length=32:=by rw[←h1,cS]
 have h2l:D2.length=32:=by rw[←h2,cS]
 have h3l:D3.length=32:=by rw[←h3,cS]
 rw[e1,e2,e3];have HT:ae (nR key bl=T):=hT;have H1:ae (nR T ([]++[1])=D1):=h1;have H2:ae (nR T (D1++[2])=D2):=h2;have H3:ae (nR T (D2++[3])=D3):=h3;clear hT h1 h2 h3 e1 e2 e3;have YH:ae (∀l:aO,l.length=32→(prog.info? 24).map (·.size)=some (l.map bv).toArray.size):=λl hl=>cW (n:=32) (by kernel_rfl) l hl;have dG:ae (ke w):=ec;have HB:ae (bj w b dZ bl):=hB;have HD0:ae (Dv w _∧dz _ w.heap.size 24 key):=Dv.new w key;clear hB ec
 go_enter func65,ntmps65
 go_wp2_with fail
 refine bY (P:=λW=>Calls prog 94 _ W _) (R:=λW=>ae (Dv w W∧dz W w.heap.size 24 key)) _ HD0 ?_;intro W0 ru;clear HD0;refine(Pp (some ⟨w.heap.size,0,none⟩) 32 32 key b dZ gV bl W0 (ru.o.2.nw 32 hk) (λe=>by cases e) (by omega) (di _) (by unfold maxLen;omega) (HB.o.later ru.o.1.aY) vv O7 yQ UA (dG.o.later ru.o.1.aY)).mono ?_;rintro e w1 ⟨rfl,ck⟩;rw[HT.o];have sT:=ru.o.1.later ck;have xA:=cJ w1 24 T 32 sS (by kernel_rfl) aV (by kernel_rfl);have Pq:=dz.new w1 24 T;have xj:=sT.later ((bZ _ _).alloc (di _) (.cells (T.map bv).toArray 24));obtain⟨W2,fV⟩:=aW (w1.alloc (.cells (T.map bv).toArray 24));rw[fV] at xA Pq xj;simp only[aV,cz] at xA;have Pr:ae (Dv w W2):=xj;have gM:ae (dz W2 w1.heap.size 24 T):=Pq;have HG:ae (w.heap.size+3<w1.heap.size):=sT.lt;have vI:ae (ke W2):=dG.o.later xj.aY;clear sT Pq xj fV ck ru HB dG HT
 go_wp2_with (first|(refine wpList_load_row rfl 24 _ rfl w1.heap.size rfl 24 _ (0,0) _ gM.o underlying24 rfl (YH.out T sS) ?_))
 refine(tx T sS none 0 0 [] 1 W2 ⟨rfl,.inl rfl⟩ (λ_=>rfl) (by omega) vI.o).mono ?_;clear xA;generalize w1.heap.size=gT at*
 rintro e w3 ⟨rfl,eZ⟩;rw[H1.o];have Ps:=Pr.o.later eZ;have xA:=cJ w3 24 D1 32 h1l (by kernel_rfl) aV (by kernel_rfl);have UR:=dz.new w3 24 D1;have js:Below W2.heap.size W2 (w3.alloc (.cells (D1.map bv).toArray 24)):=eZ.alloc eZ.size _;obtain⟨W4,fj⟩:=aW (w3.alloc (.cells (D1.map bv).toArray 24));rw[fj] at xA UR js;simp only[aV,cz] at xA;have zB:ae (Dv w W4):=Pr.o.later js;have lO:ae (ke W4):=vI.o.later js;have rv:ae (dz W4 gT 24 T):=gM.o.later js;have jC:ae (dz W4 w3.heap.size 24 D1):=UR;have mL:ae (w.heap.size+3<w3.heap.size):=Ps.lt;clear Ps UR js eZ fj Pr gM vI H1
 go_wp2_with fail
 clear xA;generalize w3.heap.size=g1 at*
 refine wp_cut (λa W=>∃g2:Nat,a={tmps:=#[.agg (key.map bv).toArray,.slice b dZ gV,.pointer (some ⟨w.heap.size,0,none⟩),ag,.pointer (some ⟨w.heap.size+1,0,none⟩),.pointer (some ⟨w.heap.size+1+1,0,none⟩),.pointer (some ⟨w.heap.size+1+1+1,0,none⟩),.pointer (some ⟨gT,0,none⟩),.pointer (some ⟨g1,0,none⟩),.pointer (some ⟨g2,0,none⟩),ag,.slice (some ⟨w.heap.size,0,none⟩) 32 32,.slice b dZ gV,.agg (T.map bv).toArray,.agg (T.map bv).toArray,.agg (D1.map bv).toArray,.agg (T.map bv).toArray,.slice (some ⟨g1,0,none⟩) 32 32,.agg (D2.map bv).toArray,ag,ag,ag,ag,ag,ag],defers:=[]}∧ae (dz W gT 24 T)∧ae (dz W g1 24 D1)∧ae (dz W g2 24 D2)∧ae (Dv w W)∧ae (ke W)∧ae (w.heap.size+3<g2)) ?_ ?_
 ·obtain⟨W,kY⟩:=aW (W4.drew);have ij:ae (W4.drew=W):=kY;have hdr:Below W4.heap.size W4 W:=by rw[←kY];exact gl
  obtain⟨B,hB⟩:∃B,B=W4.heap.size:=⟨_,rfl⟩;have wJ:gT<B:=by rw[hB];exact rv.o.lt
  have yw:g1<B:=by rw[hB];exact jC.o.lt
  have LD:w.heap.size+3<B:=by rw[hB];exact zB.o.lt
  have yx:1<B∧2<B:=by rw[hB];exact lO.o.lt
  have vK:ae (B≤W.heap.size):=by rw[hB];exact hdr.size
  rw[←hB] at hdr;replace rv:=af (rv.o.below hdr wJ);replace jC:=af (jC.o.below hdr yw);replace zB:=af (zB.o.on hdr LD);replace lO:=af (lO.o.below hdr yx);clear hdr kY hB;refine rJ (G:=Below B) (by kernel_rfl) (λ_=>bZ _ _) (λ_ _ _ h k=>Below.trans h k) (by kernel_rfl) [(0,true),(1,true)] 3 #[true,true,false,false,false] rfl (by kernel_rfl) ?_;intro KL Uc;rw[ij.o];refine aa rfl (by rfl) (v:=.agg (T.map bv).toArray) (λw' hw'=>ar 24 _ rfl gT rfl 24 _ (0,0) _ (rv.o.below hw' wJ) underlying24 rfl (YH.out T sS)) ?_;go_simp
  refine aa rfl (by rfl) (v:=.slice (some ⟨g1,0,none⟩) 32 32) (λw' hw'=>by clear hw';go_simp) ?_;go_simp
  refine Uc.out _ _ ?_;clear Uc ij;refine cC [2,3] (by kernel_rfl) rfl ?_;intro i hi;simp only[mg,nj,or_false] at hi
  rcases hi with rfl|rfl
  ·refine⟨_,rfl,by rfl,bf (f:=95) (args:=#[.agg (T.map bv).toArray,.slice (some ⟨g1,0,none⟩) 32 32,.int .u8 2]) (by go_simp) ?_⟩;refine(tx T sS (some ⟨g1,0,none⟩) 32 32 D1 2 W (jC.o.nw 32 h1l) (λe=>by cases e) (by omega) lO.o).mono ?_;rintro e V1 ⟨rfl,hb⟩;refine⟨_,rfl,hb.mono vK.o,?_⟩;rw[H2.o];have cM:=hb.mono vK.o;replace vK:ae (B≤V1.heap.size):=kx vK.o hb.size;replace rv:=af (rv.o.below cM wJ);replace jC:=af (jC.o.below cM yw);replace zB:=af (zB.o.on cM LD);replace lO:=af (lO.o.below cM yx);clear hb cM;refine cC [3] (by kernel_rfl) rfl ?_;intro i hi;simp only[mg,nj,or_false] at hi;subst hi;refine⟨_,rfl,by rfl,av (v:=.pointer (some ⟨V1.heap.size,0,none⟩)) (w':=V1.alloc (.cells aV 24)) (by go_simp;rfl) ⟨(bZ _ _).alloc vK.o _,?_⟩⟩;have hb:Below B V1 (V1.alloc (.cells aV 24)):=(bZ _ _).alloc vK.o _;have HZ:ae ((V1.alloc (.cells aV 24)).heap[V1.heap.size]?=some (.cells aV 24 (0,0))):=eC V1 _;have Ah:B≤V1.heap.size:=vK.o;replace vK:ae (B≤(V1.alloc (.cells aV 24)).heap.size):=kx vK.o hb.size;replace rv:=af (rv.o.below hb wJ);replace jC:=af (jC.o.below hb yw);replace zB:=af (zB.o.on hb LD);replace lO:=af (lO.o.below hb yx);clear hb;generalize V1.alloc (.cells aV 24)=V2 at*
   generalize V1.heap.size=g2 at*
   have xA:=aL V2 g2 _ _ (D2.map bv) HZ.o (by simp[h2l,aV]) (bd D2);have gM:ae (dz (V2.setRow g2 (D2.map bv).toArray) g2 24 D2):=setRow_heap V2 g2 _ _ _ _ HZ.o;have hb:Below B V2 (V2.setRow g2 (D2.map bv).toArray):=below_setRow (bZ _ _) Ah _;replace rv:=af (rv.o.below hb wJ);replace jC:=af (jC.o.below hb yw);replace zB:=af (zB.o.on hb LD);replace lO:=af (lO.o.below hb yx);have HGn:ae (w.heap.size+3<g2):=tV LD Ah;obtain⟨V9,US⟩:=aW (V2.setRow g2 (D2.map bv).toArray);rw[US] at xA hb gM rv jC zB lO;clear US;refine eK (G:=Below B) (λ_=>bZ _ _) (λ_ _ _ h k=>Below.trans h k) (by kernel_rfl) [(4,false)] rfl (by kernel_rfl) ?_;intro KM wD;go_simp
   refine bu rfl (by rfl) (w':=V9) (by go_simp) hb ?_;go_simp
   exact wD.out _ _ ⟨rfl,g2,rfl,rv,jC,gM,zB,lO,HGn⟩
  ·refine⟨_,rfl,by rfl,av (v:=.pointer (some ⟨W.heap.size,0,none⟩)) (w':=W.alloc (.cells aV 24)) (by go_simp;rfl) ⟨(bZ _ _).alloc vK.o _,?_⟩⟩;have hb:Below B W (W.alloc (.cells aV 24)):=(bZ _ _).alloc vK.o _;have HZ:ae ((W.alloc (.cells aV 24)).heap[W.heap.size]?=some (.cells aV 24 (0,0))):=eC W _;have Ah:B≤W.heap.size:=vK.o;replace vK:ae (B≤(W.alloc (.cells aV 24)).heap.size):=kx vK.o hb.size;replace rv:=af (rv.o.below hb wJ);replace jC:=af (jC.o.below hb yw);replace zB:=af (zB.o.on hb LD);replace lO:=af (lO.o.below hb yx);clear hb;generalize W.alloc (.cells aV 24)=V1 at*
   generalize W.heap.size=g2 at*
   refine cC [2] (by kernel_rfl) rfl ?_;intro i hi;simp only[mg,nj,or_false] at hi;subst hi;refine⟨_,rfl,by rfl,bf (f:=95) (args:=#[.agg (T.map bv).toArray,.slice (some ⟨g1,0,none⟩) 32 32,.int .u8 2]) (by go_simp) ?_⟩;refine(tx T sS (some ⟨g1,0,none⟩) 32 32 D1 2 V1 (jC.o.nw 32 h1l) (λe=>by cases e) (by omega) lO.o).mono ?_;rintro e V2 ⟨rfl,hb⟩;refine⟨_,rfl,hb.mono vK.o,?_⟩;rw[H2.o];replace HZ:=af (show V2.heap[g2]?=some (.cells aV 24 (0,0)) by rw[hb.block _ (gD.1 HZ.o).1];exact HZ.o);have cM:=hb.mono vK.o;replace vK:ae (B≤V2.heap.size):=kx vK.o hb.size;replace rv:=af (rv.o.below cM wJ);replace jC:=af (jC.o.below cM yw);replace zB:=af (zB.o.on cM LD);replace lO:=af (lO.o.below cM yx);clear hb cM;have xA:=aL V2 g2 _ _ (D2.map bv) HZ.o (by simp[h2l,aV]) (bd D2);have gM:ae (dz (V2.setRow g2 (D2.map bv).toArray) g2 24 D2):=setRow_heap V2 g2 _ _ _ _ HZ.o;have hb:Below B V2 (V2.setRow g2 (D2.map bv).toArray):=below_setRow (bZ _ _) Ah _;replace rv:=af (rv.o.below hb wJ);replace jC:=af (jC.o.below hb yw);replace zB:=af (zB.o.on hb LD);replace lO:=af (lO.o.below hb yx);have HGn:ae (w.heap.size+3<g2):=tV LD Ah;obtain⟨V9,US⟩:=aW (V2.setRow g2 (D2.map bv).toArray);rw[US] at xA hb gM rv jC zB lO;clear US;refine eK (G:=Below B) (λ_=>bZ _ _) (λ_ _ _ h k=>Below.trans h k) (by kernel_rfl) [(4,false)] rfl (by kernel_rfl) ?_;intro KM wD;go_simp
   refine bu rfl (by rfl) (w':=V9) (by go_simp) hb ?_;go_simp
   exact wD.out _ _ ⟨rfl,g2,rfl,rv,jC,gM,zB,lO,HGn⟩
 clear rv jC zB lO;rintro a W5 ⟨g2,rfl,rv,jC,gM,zB,lO,jR⟩
 (try dsimp only)
 go_wp2_with fail
 refine wp_cut (λa W=>∃g3:Nat,a={tmps:=#[.agg (key.map bv).toArray,.slice b dZ gV,.pointer (some ⟨w.heap.size,0,none⟩),ag,.pointer (some ⟨w.heap.size+1,0,none⟩),.pointer (some ⟨w.heap.size+1+1,0,none⟩),.pointer (some ⟨w.heap.size+1+1+1,0,none⟩),.pointer (some ⟨gT,0,none⟩),.pointer (some ⟨g1,0,none⟩),.pointer (some ⟨g2,0,none⟩),.pointer (some ⟨g3,0,none⟩),.slice (some ⟨w.heap.size,0,none⟩) 32 32,.slice b dZ gV,.agg (T.map bv).toArray,.agg (T.map bv).toArray,.agg (D1.map bv).toArray,.agg (T.map bv).toArray,.slice (some ⟨g1,0,none⟩) 32 32,.agg (D2.map bv).toArray,.agg (T.map bv).toArray,.slice (some ⟨g2,0,none⟩) 32 32,.agg (D3.map bv).toArray,ag,ag,ag],defers:=[]}∧ae (dz W gT 24 T)∧ae (dz W g1 24 D1)∧ae (dz W g2 24 D2)∧ae (dz W g3 24 D3)∧ae (Dv w W)∧ae (ke W)∧ae (w.heap.size+3<g3)) ?_ ?_
 ·obtain⟨W,kY⟩:=aW (W5.drew);have ij:ae (W5.drew=W):=kY;have hdr:Below W5.heap.size W5 W:=by rw[←kY];exact gl
  obtain⟨B,hB⟩:∃B,B=W5.heap.size:=⟨_,rfl⟩;have wJ:gT<B:=by rw[hB];exact rv.o.lt
  have yw:g1<B:=by rw[hB];exact jC.o.lt
  have NH:g2<B:=by rw[hB];exact gM.o.lt
  have LD:w.heap.size+3<B:=by rw[hB];exact zB.o.lt
  have yx:1<B∧2<B:=by rw[hB];exact lO.o.lt
  have vK:ae (B≤W.heap.size):=by rw[hB];exact hdr.size
  rw[←hB] at hdr;replace rv:=af (rv.o.below hdr wJ);replace jC:=af (jC.o.below hdr yw);replace gM:=af (gM.o.below hdr NH);replace zB:=af (zB.o.on hdr LD);replace lO:=af (lO.o.below hdr yx);clear hdr kY hB;refine rJ (G:=Below B) (by kernel_rfl) (λ_=>bZ _ _) (λ_ _ _ h k=>Below.trans h k) (by kernel_rfl) [(0,true),(1,true)] 3 #[true,true,false,false,false] rfl (by kernel_rfl) ?_;intro KL Uc;rw[ij.o];refine aa rfl (by rfl) (v:=.agg (T.map bv).toArray) (λw' hw'=>ar 24 _ rfl gT rfl 24 _ (0,0) _ (rv.o.below hw' wJ) underlying24 rfl (YH.out T sS)) ?_;go_simp
  refine aa rfl (by rfl) (v:=.slice (some ⟨g2,0,none⟩) 32 32) (λw' hw'=>by clear hw';go_simp) ?_;go_simp
  refine Uc.out _ _ ?_;clear Uc ij;refine cC [2,3] (by kernel_rfl) rfl ?_;intro i hi;simp only[mg,nj,or_false] at hi
  rcases hi with rfl|rfl
  ·refine⟨_,rfl,by rfl,bf (f:=95) (args:=#[.agg (T.map bv).toArray,.slice (some ⟨g2,0,none⟩) 32 32,.int .u8 3]) (by go_simp) ?_⟩;refine(tx T sS (some ⟨g2,0,none⟩) 32 32 D2 3 W (gM.o.nw 32 h2l) (λe=>by cases e) (by omega) lO.o).mono ?_;rintro e V1 ⟨rfl,hb⟩;refine⟨_,rfl,hb.mono vK.o,?_⟩;rw[H3.o];have cM:=hb.mono vK.o;replace vK:ae (B≤V1.heap.size):=kx vK.o hb.size;replace rv:=af (rv.o.below cM wJ);replace jC:=af (jC.o.below cM yw);replace gM:=af (gM.o.below cM NH);replace zB:=af (zB.o.on cM LD);replace lO:=af (lO.o.below cM yx);clear hb cM;refine cC [3] (by kernel_rfl) rfl ?_;intro i hi;simp only[mg,nj,or_false] at hi;subst hi;refine⟨_,rfl,by rfl,av (v:=.pointer (some ⟨V1.heap.size,0,none⟩)) (w':=V1.alloc (.cells aV 24)) (by go_simp;rfl) ⟨(bZ _ _).alloc vK.o _,?_⟩⟩;have hb:Below B V1 (V1.alloc (.cells aV 24)):=(bZ _ _).alloc vK.o _;have HZ:ae ((V1.alloc (.cells aV 24)).heap[V1.heap.size]?=some (.cells aV 24 (0,0))):=eC V1 _;have Ah:B≤V1.heap.size:=vK.o;replace vK:ae (B≤(V1.alloc (.cells aV 24)).heap.size):=kx vK.o hb.size;replace rv:=af (rv.o.below hb wJ);replace jC:=af (jC.o.below hb yw);replace gM:=af (gM.o.below hb NH);replace zB:=af (zB.o.on hb LD);replace lO:=af (lO.o.below hb yx);clear hb;generalize V1.alloc (.cells aV 24)=V2 at*
   generalize V1.heap.size=g3 at*
   have xA:=aL V2 g3 _ _ (D3.map bv) HZ.o (by simp[h3l,aV]) (bd D3);have py:ae (dz (V2.setRow g3 (D3.map bv).toArray) g3 24 D3):=setRow_heap V2 g3 _ _ _ _ HZ.o;have hb:Below B V2 (V2.setRow g3 (D3.map bv).toArray):=below_setRow (bZ _ _) Ah _;replace rv:=af (rv.o.below hb wJ);replace jC:=af (jC.o.below hb yw);replace gM:=af (gM.o.below hb NH);replace zB:=af (zB.o.on hb LD);replace lO:=af (lO.o.below hb yx);have HGn:ae (w.heap.size+3<g3):=tV LD Ah;obtain⟨V9,US⟩:=aW (V2.setRow g3 (D3.map bv).toArray);rw[US] at xA hb py rv jC gM zB lO;clear US;refine eK (G:=Below B) (λ_=>bZ _ _) (λ_ _ _ h k=>Below.trans h k) (by kernel_rfl) [(4,false)] rfl (by kernel_rfl) ?_;intro KM wD;go_simp
   refine bu rfl (by rfl) (w':=V9) (by go_simp) hb ?_;go_simp
   exact wD.out _ _ ⟨rfl,g3,rfl,rv,jC,gM,py,zB,lO,HGn⟩
  ·refine⟨_,rfl,by rfl,av (v:=.pointer (some ⟨W.heap.size,0,none⟩)) (w':=W.alloc (.cells aV 24)) (by go_simp;rfl) ⟨(bZ _ _).alloc vK.o _,?_⟩⟩;have hb:Below B W (W.alloc (.cells aV 24)):=(bZ _ _).alloc vK.o _;have HZ:ae ((W.alloc (.cells aV 24)).heap[W.heap.size]?=some (.cells aV 24 (0,0))):=eC W _;have Ah:B≤W.heap.size:=vK.o;replace vK:ae (B≤(W.alloc (.cells aV 24)).heap.size):=kx vK.o hb.size;replace rv:=af (rv.o.below hb wJ);replace jC:=af (jC.o.below hb yw);replace gM:=af (gM.o.below hb NH);replace zB:=af (zB.o.on hb LD);replace lO:=af (lO.o.below hb yx);clear hb;generalize W.alloc (.cells aV 24)=V1 at*
   generalize W.heap.size=g3 at*
   refine cC [2] (by kernel_rfl) rfl ?_;intro i hi;simp only[mg,nj,or_false] at hi;subst hi;refine⟨_,rfl,by rfl,bf (f:=95) (args:=#[.agg (T.map bv).toArray,.slice (some ⟨g2,0,none⟩) 32 32,.int .u8 3]) (by go_simp) ?_⟩;refine(tx T sS (some ⟨g2,0,none⟩) 32 32 D2 3 V1 (gM.o.nw 32 h2l) (λe=>by cases e) (by omega) lO.o).mono ?_;rintro e V2 ⟨rfl,hb⟩;refine⟨_,rfl,hb.mono vK.o,?_⟩;rw[H3.o];replace HZ:=af (show V2.heap[g3]?=some (.cells aV 24 (0,0)) by rw[hb.block _ (gD.1 HZ.o).1];exact HZ.o);have cM:=hb.mono vK.o;replace vK:ae (B≤V2.heap.size):=kx vK.o hb.size;replace rv:=af (rv.o.below cM wJ);replace jC:=af (jC.o.below cM yw);replace gM:=af (gM.o.below cM NH);replace zB:=af (zB.o.on cM LD);replace lO:=af (lO.o.below cM yx);clear hb cM;have xA:=aL V2 g3 _ _ (D3.map bv) HZ.o (by simp[h3l,aV]) (bd D3);have py:ae (dz (V2.setRow g3 (D3.map bv).toArray) g3 24 D3):=setRow_heap V2 g3 _ _ _ _ HZ.o;have hb:Below B V2 (V2.setRow g3 (D3.map bv).toArray):=below_setRow (bZ _ _) Ah _;replace rv:=af (rv.o.below hb wJ);replace jC:=af (jC.o.below hb yw);replace gM:=af (gM.o.below hb NH);replace zB:=af (zB.o.on hb LD);replace lO:=af (lO.o.below hb yx);have HGn:ae (w.heap.size+3<g3):=tV LD Ah;obtain⟨V9,US⟩:=aW (V2.setRow g3 (D3.map bv).toArray);rw[US] at xA hb py rv jC gM zB lO;clear US;refine eK (G:=Below B) (λ_=>bZ _ _) (λ_ _ _ h k=>Below.trans h k) (by kernel_rfl) [(4,false)] rfl (by kernel_rfl) ?_;intro KM wD;go_simp
   refine bu rfl (by rfl) (w':=V9) (by go_simp) hb ?_;go_simp
   exact wD.out _ _ ⟨rfl,g3,rfl,rv,jC,gM,py,zB,lO,HGn⟩
 clear rv jC gM zB lO;rintro a W6 ⟨g3,rfl,rv,jC,gM,py,zB,lO,yd⟩
 (try dsimp only)
 go_wp2_with fail
 obtain⟨W,kY⟩:=aW (W6.drew);have ij:ae (W6.drew=W):=kY;have hdr:Below W6.heap.size W6 W:=by rw[←kY];exact gl
 replace jC:=af (jC.o.later hdr);replace gM:=af (gM.o.later hdr);replace py:=af (py.o.later hdr);have hD:=zB.o.later hdr;clear hdr kY rv lO zB;have gN:=aL W (w.heap.size+1) _ _ (D1.map bv) hD.r1 (by simp[h1l,aV]) (bd D1);have q1:=setRow_heap W (w.heap.size+1) _ (D1.map bv).toArray _ _ hD.r1;have f1:Far (w.heap.size+3) W (W.setRow (w.heap.size+1) (D1.map bv).toArray):=λg hg=>setRow_other _ _ _ _ (by omega);have r2:(W.setRow (w.heap.size+1) (D1.map bv).toArray).heap[w.heap.size+1+1]?=some (.cells aV 24 (0,0)):=by rw[setRow_other _ _ _ _ (by omega)];exact hD.r2
 have r3:(W.setRow (w.heap.size+1) (D1.map bv).toArray).heap[w.heap.size+1+1+1]?=some (.cells aV 24 (0,0)):=by rw[setRow_other _ _ _ _ (by omega)];exact hD.r3
 have b1:Below w.heap.size w (W.setRow (w.heap.size+1) (D1.map bv).toArray):=below_setRow hD.aY (by omega) _;generalize W.setRow (w.heap.size+1) (D1.map bv).toArray=X1 at*
 have eO:=aL X1 (w.heap.size+1+1) _ _ (D2.map bv) r2 (by simp[h2l,aV]) (bd D2);have q2:=setRow_heap X1 (w.heap.size+1+1) _ (D2.map bv).toArray _ _ r2;have f2:Far (w.heap.size+3) X1 (X1.setRow (w.heap.size+1+1) (D2.map bv).toArray):=λg hg=>setRow_other _ _ _ _ (by omega);replace q1:(X1.setRow (w.heap.size+1+1) (D2.map bv).toArray).heap[w.heap.size+1]?=some (.cells (D1.map bv).toArray 24 (0,0)):=by rw[setRow_other _ _ _ _ (by omega)];exact q1
 replace r3:(X1.setRow (w.heap.size+1+1) (D2.map bv).toArray).heap[w.heap.size+1+1+1]?=some (.cells aV 24 (0,0)):=by rw[setRow_other _ _ _ _ (by omega)];exact r3
 replace b1:Below w.heap.size w (X1.setRow (w.heap.size+1+1) (D2.map bv).toArray):=below_setRow b1 (by omega) _;generalize X1.setRow (w.heap.size+1+1) (D2.map bv).toArray=X2 at*
 have acV:=aL X2 (w.heap.size+1+1+1) _ _ (D3.map bv) r3 (by simp[h3l,aV]) (bd D3);have Q3:=af (setRow_heap X2 (w.heap.size+1+1+1) _ (D3.map bv).toArray _ _ r3);have f3:Far (w.heap.size+3) X2 (X2.setRow (w.heap.size+1+1+1) (D3.map bv).toArray):=λg hg=>setRow_other _ _ _ _ (by omega);have Q1:ae ((X2.setRow (w.heap.size+1+1+1) (D3.map bv).toArray).heap[w.heap.size+1]?=some (.cells (D1.map bv).toArray 24 (0,0))):=by show _=_;rw[setRow_other _ _ _ _ (by omega)];exact q1
 have Q2:ae ((X2.setRow (w.heap.size+1+1+1) (D3.map bv).toArray).heap[w.heap.size+1+1]?=some (.cells (D2.map bv).toArray 24 (0,0))):=by show _=_;rw[setRow_other _ _ _ _ (by omega)];exact q2
 have bR:ae (Below w.heap.size w (X2.setRow (w.heap.size+1+1+1) (D3.map bv).toArray)):=below_setRow b1 (by omega) _;generalize X2.setRow (w.heap.size+1+1+1) (D3.map bv).toArray=X3 at*
 have F1:=af f1;have F2:=af f2;have F3:=af f3;clear f1 f2 f3 b1 q1 q2 r2 r3 hD;refine ah (G:=Far (w.heap.size+3)) (by kernel_rfl) (λ_ _ _=>rfl) (λ_ _ _ h k g hg=>(k g hg).trans (h g hg)) (by kernel_rfl) [(0,true),(1,true),(2,true),(3,false),(4,false),(5,false)] rfl (by kernel_rfl) ?_;intro KK cA;rw[ij.o];clear ij;refine aa rfl (by rfl) (v:=.agg (D1.map bv).toArray) (λw' hw'=>ar 24 _ rfl g1 rfl 24 _ (0,0) _ ((hw' g1 mL.o).trans jC.o) underlying24 rfl (YH.out D1 h1l)) ?_;go_simp
 refine aa rfl (by rfl) (v:=.agg (D2.map bv).toArray) (λw' hw'=>ar 24 _ rfl g2 rfl 24 _ (0,0) _ ((hw' g2 jR.o).trans gM.o) underlying24 rfl (YH.out D2 h2l)) ?_;go_simp
 refine aa rfl (by rfl) (v:=.agg (D3.map bv).toArray) (λw' hw'=>ar 24 _ rfl g3 rfl 24 _ (0,0) _ ((hw' g3 yd.o).trans py.o) underlying24 rfl (YH.out D3 h3l)) ?_;go_simp
 refine bu rfl (by rfl) (w':=X1) (by go_simp) F1.out ?_;go_simp
 refine bu rfl (by rfl) (w':=X2) (by go_simp) F2.out ?_;go_simp
 refine bu rfl (by rfl) (w':=X3) (by go_simp) F3.out ?_;clear gN eO acV;go_simp
 refine az cA ?_
 (try go_wp2)
 (try simp only[nu,Exit.then])
 refine bodyPost_ret (Fz rfl _ _ (w.heap.size+1) (w.heap.size+1+1) (w.heap.size+1+1+1) 24 _ _ _ _ rfl rfl rfl Q1.out Q2.out Q3.out underlying24 rfl (YH.out D1 h1l) (YH.out D2 h2l) (YH.out D3 h3l)) rfl ?_;exact⟨rfl,bR.o⟩
theorem tz {w:aw}{g t off:Nat}{A old B:bK}(h:w.heap[g]?=some (.cells (A++(old++B)).toArray t (0,0)))(ha:A.length=off)(vs:bK)(hl:vs.length=old.length)(h1:∀v∈vs,v.oneCell'=true):
  ∃w',(storeCells ⟨g,off,none⟩ vs).run prog w= .ok () w'∧w'.heap[g]?=some (.cells (A++(vs++B)).toArray t (0,0))∧w.grownBy w' (some g):=by
 have hs:=fu (P:=prog) g off t vs 0 _ w h (by simp[ha,hl]) h1;refine⟨_,hs,?_,⟨rfl,rfl,rfl,by simp,λk hk eL=>setRow_other w g k _ (λe=>eL (by rw[e]))⟩⟩;have hr:=setRow_heap w g _ ((A++(old++B)).toArray.toList.take (off+0)++vs++(A++(old++B)).toArray.toList.drop (off+0+vs.length)).toArray t (0,0) h;have e2:(A++(old++B)).toArray.toList=A++(old++B):=rfl;rw[hr,e2];have x1:A.length=off+0:=ha;have x2:(A++old).length=off+0+vs.length:=by simp[ha,hl]
 rw[List.take_left' x1,←List.append_assoc A old B,List.drop_left' x2,List.append_assoc]
section
variable {w:aw} {g t:Nat} {B:bK} {chain hash key:aO} {has:Bool} {n:Nat}
theorem KM.YI (x:KM w g t B chain hash key has n)(h':aO)(hl:h'.length=32):
  ∃w',(storeCells ⟨g,32,none⟩ (h'.map bv)).run prog w= .ok () w'∧KM w' g t B chain h' key has n∧w.grownBy w' (some g):=by
 obtain⟨w',h1,h2,h3⟩:=tz (off:=32) (A:=chain.map bv) (old:=hash.map bv) (B:=dM key has n++B) (by simpa[sN] using x.row) (by simp[x.c]) (h'.map bv) (by simp[hl,x.h]) (bd h');exact⟨w',h1,⟨by simpa[sN] using h2,x.c,hl,x.k⟩,h3⟩
theorem KM.UT (x:KM w g t B chain hash key has n)(c':aO)(hl:c'.length=32):
  ∃w',(storeCells ⟨g,0,none⟩ (c'.map bv)).run prog w= .ok () w'∧KM w' g t B c' hash key has n∧w.grownBy w' (some g):=by
 obtain⟨w',h1,h2,h3⟩:=tz (A:=[]) (old:=chain.map bv) (B:=hash.map bv++(dM key has n++B)) (by simpa[sN] using x.row) rfl (c'.map bv) (by simp[hl,x.c]) (bd c');exact⟨w',h1,⟨by simpa[sN] using h2,hl,x.h,x.k⟩,h3⟩
theorem KM.ahY (x:KM w g t B chain hash key has n)(k':aO)(YJ:Bool)(n':Nat)(hl:k'.length=32):
  ∃w',(storeCells ⟨g,64,none⟩ (dM k' YJ n')).run prog w= .ok () w'∧KM w' g t B chain hash k' YJ n'∧w.grownBy w' (some g):=by
 obtain⟨w',h1,h2,h3⟩:=tz (off:=64) (A:=chain.map bv++hash.map bv) (old:=dM key has n) (B:=B) (by simpa[sN] using x.row) (by simp[x.c,x.h]) (dM k' YJ n') (by simp[dM,hl,x.k]) (jL k' YJ n');exact⟨w',h1,⟨by simpa[sN] using h2,x.c,x.h,hl⟩,h3⟩
end
theorem kp (g t:Nat)(BB:bK)(chain hash key:aO)(has:Bool)(n:Nat)(c:bW)(lc cc:Nat)(b:aO)(w:aw)(hM:KM w g t BB chain hash key has n)(hB:bj w c lc b)(kX:c=none→cc=0)(ig:lc≤2000)(kZ:lc≤cc)(gB:cc≤maxLen)(ec:ke w)(hg:g≠1∧g≠2):
  Calls prog 52 #[.pointer (some ⟨g,0,none⟩),.slice c lc cc] w λe w'=>(∃v,e= .returned v)∧w.grownBy w' (some g)∧KM w' g t BB chain (zi hash b) key has n:=by
 have kW:=hB.1;have oa:=hM.lt;have ahv:=ec.lt;have Yw:=hM.h;have HM:=aj hM;have HB:=aj hB;have dG:=aj ec;have HA:ae (∀g',w.heap.size≤g'→0<lc→∀b o f,c=some ⟨b,o,f⟩→b≠g'):=λg' hg'=>hB.apart hg';clear hM hB ec
 go_enter func52,ntmps52
 go_wp2_with fail
 refine(DN w dG.o).mono ?_;rintro e w1 ⟨g1,rfl,uB,hH1,ck⟩;have hgg:g≠g1:=by omega
 have Ss:g1≠1∧g1≠2:=by omega
 have pY:=aj (dG.o.later ck);have HH1:=aj hH1;have Cs:=aj (HM.o.later ck);have iG:=aj (HB.o.later ck);have fU:=aj ck;have Yl:ae (bj w1 (some ⟨g,32,none⟩) 32 hash):=pM Yw Cs.o.J7;clear hH1 ck
 go_wp2_with fail
 refine(qw g1 [] (some ⟨g,32,none⟩) 32 32 hash w1 HH1.o Yl.o (λe=>by cases e) (λ_ b o f e=>by cases e;exact hgg) (di _) (by unfold maxLen;omega) (by simp) pY.o Ss).mono ?_;rintro e w2 ⟨⟨v,rfl⟩,St,fH⟩;have WJ:ae (fG w2 g1 hash):=St;have vI:=aj (pY.o.but fH Ss);have LY:=aj (Cs.o.but fH hgg);have sO:=aj (iG.o.Cu fH (HA.o g1 uB));have fw:=aj (dI fU.o fH uB);clear St fH HH1 pY Cs iG Yl fU
 go_wp2_with fail
 refine(qw g1 hash c lc cc b w2 WJ.o sO.o kX (HA.o g1 uB) kZ gB (by omega) vI.o Ss).mono ?_;rintro e w3 ⟨⟨v3,rfl⟩,hH3,fP⟩;have HH3:ae (fG w3 g1 (hash++b)):=hH3;have FZ:=aj (vI.o.but fP Ss);have yS:=aj (LY.o.but fP hgg);have pI:=aj (dI fw.o fP uB);clear hH3 fP WJ vI LY sO fw
 go_wp2_with fail
 refine(AO g1 (hash++b) w3 HH3.o (by simp;omega) FZ.o).mono ?_;rintro e w4 ⟨rfl,js⟩;have wA:=we hash b;obtain⟨R,hR⟩:=aW (zi hash b);have UU:dc (hash++b)=R:=hR;rw[hR] at wA;rw[UU];obtain⟨X,xA,hMX,hGX⟩:=(yS.o.later js).YI R wA;have HR:=aj hR;have HMX:=aj hMX;have HGX:ae (w.grownBy X (some g)):=World.grownBy.trans (bI.below g (pI.o.trans (js.mono pI.o.size))) hGX;clear hMX hGX js HH3 FZ yS pI hR UU
 go_wp2_with fail
 refine bodyPost_end (results_none rfl _ _ _) rfl ?_;exact⟨⟨_,rfl⟩,HGX.o,by rw[HR.o];exact HMX.o⟩
theorem D4 (w:aw)(K1 K2 K3:aO)(h1:K1.length=32)(h2:K2.length=32)(h3:K3.length=32):
  ∃X1 X2 X3,(storeCells ⟨w.heap.size,0,none⟩ (K1.map bv)).run prog (((w.alloc (.cells aV 24)).alloc (.cells aV 24)).alloc (.cells aV 24))= .ok () X1∧
   (storeCells ⟨w.heap.size+1,0,none⟩ (K2.map bv)).run prog X1= .ok () X2∧(storeCells ⟨w.heap.size+1+1,0,none⟩ (K3.map bv)).run prog X2= .ok () X3∧
   dz X3 w.heap.size 24 K1∧dz X3 (w.heap.size+1) 24 K2∧Below w.heap.size w X3:=by
 obtain⟨W,hW⟩:=aW (((w.alloc (.cells aV 24)).alloc (.cells aV 24)).alloc (.cells aV 24));have e1:=eC w (.cells aV 24);have e2:=eC (w.alloc (.cells aV 24)) (.cells aV 24);have e3:=eC ((w.alloc (.cells aV 24)).alloc (.cells aV 24)) (.cells aV 24);simp only[fx] at e2 e3;have r1:W.heap[w.heap.size]?=some (.cells aV 24 (0,0)):=by rw[←hW,jE _ _ _ (by simp<;>omega),jE _ _ _ (by simp)];exact e1
 have r2:W.heap[w.heap.size+1]?=some (.cells aV 24 (0,0)):=by rw[←hW,jE _ _ _ (by simp)];exact e2
 have r3:W.heap[w.heap.size+1+1]?=some (.cells aV 24 (0,0)):=by rw[←hW];exact e3
 have hb:Below w.heap.size w W:=by rw[←hW];exact(eF.alloc (by simp) _).alloc (by simp<;>omega) _
 rw[hW];have s1:=aL W w.heap.size _ _ (K1.map bv) r1 (by simp[h1,aV]) (bd K1);have q1:=setRow_heap W w.heap.size _ (K1.map bv).toArray _ _ r1;have q2:=(setRow_other W w.heap.size (w.heap.size+1) (K1.map bv).toArray (by omega)).trans r2;have q3:=(setRow_other W w.heap.size (w.heap.size+1+1) (K1.map bv).toArray (by omega)).trans r3;have b1:=below_setRow hb (di _) (K1.map bv).toArray;obtain⟨X1,jN⟩:∃X,W.setRow w.heap.size (K1.map bv).toArray=X:=⟨_,rfl⟩;rw[jN] at s1 q1 q2 q3 b1;have s2:=aL X1 (w.heap.size+1) _ _ (K2.map bv) q2 (by simp[h2,aV]) (bd K2);have t1:=(setRow_other X1 (w.heap.size+1) w.heap.size (K2.map bv).toArray (by omega)).trans q1;have t2:=setRow_heap X1 (w.heap.size+1) _ (K2.map bv).toArray _ _ q2;have t3:=(setRow_other X1 (w.heap.size+1) (w.heap.size+1+1) (K2.map bv).toArray (by omega)).trans q3;have b2:=below_setRow b1 (show w.heap.size≤w.heap.size+1 by omega) (K2.map bv).toArray;obtain⟨X2,lf⟩:∃X,X1.setRow (w.heap.size+1) (K2.map bv).toArray=X:=⟨_,rfl⟩;rw[lf] at s2 t1 t2 t3 b2;have s3:=aL X2 (w.heap.size+1+1) _ _ (K3.map bv) t3 (by simp[h3,aV]) (bd K3);have u1:=(setRow_other X2 (w.heap.size+1+1) w.heap.size (K3.map bv).toArray (by omega)).trans t1;have u2:=(setRow_other X2 (w.heap.size+1+1) (w.heap.size+1) (K3.map bv).toArray (by omega)).trans t2;have b3:=below_setRow b2 (show w.heap.size≤w.heap.size+1+1 by omega) (K3.map bv).toArray;exact⟨X1,X2,_,s1,s2,s3,u1,u2,b3⟩
theorem K9 (g t:Nat)(BB:bK)(chain hash key:aO)(has:Bool)(n:Nat)(c:bW)(lc cc:Nat)(b:aO)(w:aw)(hM:KM w g t BB chain hash key has n)(hB:bj w c lc b)(kX:c=none→cc=0)(ig:lc≤2000)(kZ:lc≤cc)(gB:cc≤maxLen)(ec:ke w)(hg:g≠1∧g≠2):
  Calls prog 59 #[.pointer (some ⟨g,0,none⟩),.slice c lc cc] w λe w'=>(∃v,e= .returned v)∧w.grownBy w' (some g)∧KM w' g t BB (gH chain b) hash (nS chain b) true 0:=by
 have oa:=hM.lt;have jc:=hM.c;have HM:=aj hM;have HB:=aj hB;have dG:=aj ec;have HI:ae ((prog.info? 24).map (·.size)=some (chain.map bv).length):=by
  have e1:(prog.info? 24).map (·.size)=some 32:=by kernel_rfl
  show _=_;rw[e1];simp[jc]
 clear hM hB ec
 go_enter func59,ntmps59
 go_wp2_with (first|refine cD rfl 24 _ rfl g 0 rfl (chain.map bv) _ HM.o.MC underlying24 rfl HI.o ?_|fail)
 refine(D0 chain c lc cc b w jc HB.o kX (by omega) kZ gB dG.o).mono ?_;rintro e w1 ⟨rfl,ck⟩;obtain⟨D1,sT⟩:∃D,gH chain b=D:=⟨_,rfl⟩;obtain⟨D2,xj⟩:∃D,nS chain b=D:=⟨_,rfl⟩;obtain⟨D3,Ps⟩:∃D,CS chain b=D:=⟨_,rfl⟩;have l1:D1.length=32:=by rw[←sT];exact cS _ _
 have l2:D2.length=32:=by rw[←xj];exact cS _ _
 have l3:D3.length=32:=by rw[←Ps];exact cS _ _
 rw[sT,xj,Ps];obtain⟨X1,X2,X3,s1,s2,s3,u1,u2,eZ⟩:=D4 w1 D1 D2 D3 l1 l2 l3;simp only[aV,cz] at s1;have UW:Below w.heap.size w X3:=ck.trans (eZ.mono ck.size);have I1:ae ((prog.info? 24).map (·.size)=some (D1.map bv).toArray.size):=cW (n:=32) (by kernel_rfl) D1 l1;have I2:ae ((prog.info? 24).map (·.size)=some (D2.map bv).toArray.size):=cW (n:=32) (by kernel_rfl) D2 l2;have Bl:=aj u1;have xT:=aj u2;have HD:=aj (And.intro sT xj);have hps:=ck.size;obtain⟨p,hp⟩:=aW (w1.heap.size);have HBX:=aj UW;rw[hp] at s1 s2 s3 Bl xT hps;clear eZ UW u1 u2 sT xj Ps ck
 go_wp2_with fail
 clear s1 s2 s3 hp;obtain⟨W,hW⟩:=aW (X3.drew);have cL:Below X3.heap.size X3 W:=by rw[←hW];exact gl
 have jC:=aj (Bl.o.later cL);have gM:=aj (xT.o.later cL);have gx:=aj (HBX.o.trans (cL.mono HBX.o.size));have xp:=aj (HM.o.later gx.o);have pd:=aj hW;have HL1:ae (∀w',bI g W w'→w'.heap[p]?=some (.cells (D1.map bv).toArray 24 (0,0))):=λw' hw'=>by rw[hw'.block p jC.o.lt (λe=>by cases e;omega)];exact jC.o
 have Ja:ae (∀w',bI g W w'→w'.heap[p+1]?=some (.cells (D2.map bv).toArray 24 (0,0))):=λw' hw'=>by rw[hw'.block (p+1) gM.o.lt (λe=>by cases e;omega)];exact gM.o
 clear hW cL Bl xT HBX;refine ah (G:=bI g) (by kernel_rfl) (bI.refl g) (bI.trans g) (by kernel_rfl) [(0,true),(1,true),(2,true),(3,true),(4,false),(5,true),(6,true),(7,false),(8,true),(9,true),(10,false)] rfl (by kernel_rfl) ?_;intro KK cA;rw[pd.o]
 iterate 2 (refine aa rfl (by rfl) (v:=?_) ?_ ?_;rotate_left;(intro w' hw';clear hw';go_simp;with_reducible rfl);go_simp)
 refine aa rfl (by rfl) (v:=.agg (D1.map bv).toArray) (λw' hw'=>ar 24 _ rfl p rfl 24 _ (0,0) _ (HL1.o w' hw') underlying24 rfl I1.out) ?_;go_simp
 refine aa rfl (by rfl) (v:=.agg (D2.map bv).toArray) (λw' hw'=>ar 24 _ rfl (p+1) rfl 24 _ (0,0) _ (Ja.o w' hw') underlying24 rfl I2.out) ?_;go_simp
 refine aU (f:=66) (args:=#[.agg (D2.map bv).toArray]) rfl (by rfl) (by go_simp) ?_;refine(yu D2 W l2).mono ?_;rintro e w5 ⟨rfl,iE⟩;refine⟨_,rfl,bI.below g iE,?_⟩;obtain⟨Y1,t1,xu,oI⟩:=(xp.o.later iE).UT D1 l1;obtain⟨Y2,t2,wz,fH⟩:=xu.ahY D2 true 0 l2;have LY:=aj wz;have HG:ae (w.grownBy Y2 (some g)):=World.grownBy.trans (World.grownBy.trans (bI.below g (gx.o.trans (iE.mono gx.o.size))) oI) fH;have mL:=aj oI;have jR:=aj fH;have hlen:(dM D2 true 0).length=34:=by rw[dK,l2]
 clear xu wz oI fH iE HL1 Ja jC gM xp gx pd;go_simp
 iterate 2 (refine aa rfl (by rfl) (v:=?_) ?_ ?_;rotate_left;(intro w' hw';clear hw';go_simp;with_reducible rfl);go_simp)
 refine bu rfl (by rfl) (w':=Y1) (by go_simp) mL.o ?_;clear t1;go_simp
 iterate 2 (refine aa rfl (by rfl) (v:=?_) ?_ ?_;rotate_left;(intro w' hw';clear hw';go_simp;with_reducible rfl);go_simp)
 refine bu rfl (by rfl) (w':=Y2) (by go_simp) jR.o ?_;clear t2;go_simp
 refine az cA ?_;clear cA
 (try go_wp2)
 refine bodyPost_end (results_none rfl _ _ _) rfl ?_;exact⟨⟨_,rfl⟩,HG.o,by rw[HD.o.1,HD.o.2];exact LY.o⟩
theorem YK {w:aw}{base n c:Nat}{e:TypeId}{a:bW}{xs:bK}(h:w.ownsRow base e 1 (.slice a n c) n xs):∀j,bL a=some j→base≤j:=by
 intro j hj
 rcases h.2 with⟨e',_⟩|⟨g,cap,cur,e',hb,_⟩
 ·cases e';cases hj
 ·cases e'
  have:g=j:=by simpa[bL] using hj
  omega
theorem D8 (has:Bool)(n:Nat):sw has n=0∨(has=true∧n=gf):=by
 cases has with
 |false=>exact .inl rfl
 |true=>
  by_cases h:n=gf
  ·exact .inr ⟨rfl,h⟩
  ·exact .inl (by simp[sw,h])
theorem D' (g t:Nat)(BB:bK)(chain hash key:aO)(has:Bool)(n:Nat)(c:bW)(lc cc:Nat)(b:aO)(w:aw)(hM:KM w g t BB chain hash key has n)(hn:n≤18446744073709551615)(hB:bj w c lc b)(kX:c=none→cc=0)(ig:lc≤900)(kZ:lc≤cc)(gB:cc≤maxLen)(ec:ke w)(hg:g≠1∧g≠2):
  Calls prog 60 #[.pointer (some ⟨g,0,none⟩),.slice c lc cc] w λe w'=>∃v,e= .returned (.tuple #[v,.int .i64 ((sw has n:Nat):Int)])∧w.grownBy w' (some g)∧KM w' g t BB chain (xF hash key has n b) key has (uh has n)∧w'.ownsRow w.heap.size 5 1 v (oP key has n hash b).length ((oP key has n hash b).map bv):=by
 have oa:=hM.lt;have kW:=hB.1;have hXl:=rH key has n hash b;obtain⟨W,hW⟩:=aW (w.drew);have cL:Below w.heap.size w W:=by rw[←hW];exact gl
 have jc:=hM.c;have Yw:=hM.h;have xp:=aj (hM.later cL);have gx:=aj (hB.later cL);have HT:=aj (ec.later cL);have oZ:=aj cL;have pd:=aj hW;clear hM hB hW cL ec
 go_enter func60,ntmps60
 go_wp2
 refine ah (G:=bI g) (by kernel_rfl) (bI.refl g) (bI.trans g) (by kernel_rfl) [(0,true),(1,true),(2,true),(3,true),(4,true),(5,true),(6,true),(7,true),(8,false),(9,true),(10,true),(11,true),(12,true),(13,true)] rfl (by kernel_rfl) ?_;intro KK cA;rw[pd.o]
 iterate 8 (refine aa rfl (by rfl) (v:=?_) ?_ ?_;rotate_left;(intro w' hw';clear hw';go_simp;with_reducible rfl);go_simp)
 refine aU (f:=89) (args:=#[.pointer (some ⟨g,64,none⟩),.slice (some ⟨g,32,none⟩) 32 32,.slice c lc cc]) rfl (by rfl) (by go_simp) ?_;refine(QV g t 64 (chain.map bv++hash.map bv) BB key has n (some ⟨g,32,none⟩) 32 32 hash c lc cc b W (KM.agd xp.o) hn (pM Yw xp.o.J7) (λe=>by cases e) (by omega) (by omega) (by unfold maxLen;omega) gx.o kX (by omega) kZ gB).mono ?_;rintro e w3 ⟨v3,rfl,fP,hK3,dt⟩;refine⟨_,rfl,fP,?_⟩;have yS:=aj (KM.age jc Yw hK3);have yd:ae (w.grownBy w3 (some g)):=World.grownBy.trans (bI.below g oZ.o) fP;have FZ:=aj (HT.o.but fP hg);have ff:=bQ dt oZ.o.size
 rcases D8 has n with yT|⟨rfl,rfl⟩
 ·have hsh:xF hash key has n b=zi hash (oP key has n hash b):=by rw[xF,if_pos yT]
  obtain⟨X,hX⟩:=aW (oP key has n hash b);obtain⟨lx,hlx⟩:=aW (X.length);obtain⟨n',Hl⟩:=aW (uh has n);rw[hX,hlx] at hXl;rw[hX,hlx] at ff;rw[Hl] at yS;rw[yT];have HE:=aj (And.intro yT (And.intro hsh (And.intro hX (And.intro hlx Hl))));obtain⟨a3,c3,rfl,wm,tr,xx,CZ⟩:=bq ff;have rO:=aj ff;have Ax:=aj wm;have Hn3:=aj CZ;clear yT hsh hX hlx Hl ff dt wm CZ hK3 fP pd HT gx xp oZ;go_simp
  iterate 5 (refine aa rfl (by rfl) (v:=?_) ?_ ?_;rotate_left;(intro w' hw';clear hw';go_simp;with_reducible rfl);go_simp)
  refine az cA ?_;clear cA
  go_wp2_with fail
  refine(kp g t BB chain hash key has n' a3 lx c3 X w3 yS.o Ax.o Hn3.o (by omega) tr xx FZ.o hg).mono ?_;rintro e w5 ⟨⟨v5,rfl⟩,jG,B7⟩;have LP:ae (w.grownBy w5 (some g)):=World.grownBy.trans yd.o jG;have tu:=aj (cT rO.o jG (λb' cU e=>by
   have:=(aad rO.o b' cU).1;cases e
   omega))
  have LZ:=aj B7;clear jG B7 rO yS Ax FZ yd
  go_wp2_with fail
  go_ret2
  obtain⟨e1,e2,e3,e4,e5⟩:=HE.o;rw[e1,e2,e3,e4,e5];exact⟨_,rfl,LP.o,LZ.o,tu.o⟩
 ·have e1:sw true gf=5:=rfl;have e2:uh true gf=gf:=rfl;have e3:oP key true gf hash b=[]:=rfl;have e4:xF hash key true gf b=hash:=rfl;rw[e1];rw[e2] at yS;obtain⟨a3,c3,rfl,_,_,_,_⟩:=bq ff;clear ff dt hK3 fP pd HT gx xp oZ e1 e2 e3 e4;go_simp
  iterate 5 (refine aa rfl (by rfl) (v:=?_) ?_ ?_;rotate_left;(intro w' hw';clear hw';go_simp;with_reducible rfl);go_simp)
  refine az cA ?_;clear cA
  go_wp2_with fail
  go_ret2
  exact⟨_,rfl,yd.o,yS.o,⟨rfl,.inl ⟨rfl,rfl⟩⟩⟩
theorem wK (g t:Nat)(BB:bK)(chain hash key:aO)(has:Bool)(n:Nat)(c:bW)(lc cc:Nat)(b:aO)(w:aw)(hM:KM w g t BB chain hash key has n)(hn:n≤18446744073709551615)(hB:bj w c lc b)(kX:c=none→cc=0)(ig:lc≤1000)(kZ:lc≤cc)(gB:cc≤maxLen)(YL:∀x o f,c=some ⟨x,o,f⟩→x≠g)(ec:ke w)(hg:g≠1∧g≠2):
  Calls prog 63 #[.pointer (some ⟨g,0,none⟩),.slice c lc cc] w λe w'=>∃v,e= .returned (.tuple #[v,.int .i64 ((mZ key has n hash b:Nat):Int)])∧w.grownBy w' (some g)∧KM w' g t BB chain (wg hash key has n b) key has (ri key has n hash b)∧w'.ownsRow w.heap.size 5 1 v (og key has n hash b).length ((og key has n hash b).map bv):=by
 have oa:=hM.lt;have kW:=hB.1;obtain⟨W,hW⟩:=aW (w.drew);have cL:Below w.heap.size w W:=by rw[←hW];exact gl
 have jc:=hM.c;have Yw:=hM.h;have xp:=aj (hM.later cL);have gx:=aj (hB.later cL);have HT:=aj (ec.later cL);have oZ:=aj cL;have pd:=aj hW;have HCg:=aj YL;clear hM hB hW cL ec YL
 go_enter func63,ntmps63
 go_wp2
 refine ah (G:=bI g) (by kernel_rfl) (bI.refl g) (bI.trans g) (by kernel_rfl) [(0,true),(1,true),(2,true),(3,true),(4,true),(5,true),(6,true),(7,true),(8,false),(9,true),(10,true),(11,true),(12,true),(13,true)] rfl (by kernel_rfl) ?_;intro KK cA;rw[pd.o]
 iterate 8 (refine aa rfl (by rfl) (v:=?_) ?_ ?_;rotate_left;(intro w' hw';clear hw';go_simp;with_reducible rfl);go_simp)
 refine aU (f:=92) (args:=#[.pointer (some ⟨g,64,none⟩),.slice (some ⟨g,32,none⟩) 32 32,.slice c lc cc]) rfl (by rfl) (by go_simp) ?_;refine(QW g t 64 (chain.map bv++hash.map bv) BB key has n (some ⟨g,32,none⟩) 32 32 hash c lc cc b W (KM.agd xp.o) hn (pM Yw xp.o.J7) (λe=>by cases e) (by omega) (by omega) (by unfold maxLen;omega) gx.o kX (by omega) kZ gB).mono ?_;rintro e w3 ⟨v3,rfl,fP,hK3,dt⟩;refine⟨_,rfl,fP,?_⟩;have yS:=aj (KM.age jc Yw hK3);have yd:ae (w.grownBy w3 (some g)):=World.grownBy.trans (bI.below g oZ.o) fP;have FZ:=aj (HT.o.but fP hg);have Ax:=aj (gu gx.o fP HCg.o);have ff:=bQ dt oZ.o.size
 by_cases yT:mZ key has n hash b=0
 ·have hsh:wg hash key has n b=zi hash b:=by rw[wg,if_pos yT]
  obtain⟨X,hX⟩:=aW (og key has n hash b);obtain⟨lx,hlx⟩:=aW (X.length);obtain⟨n',Hl⟩:=aW (ri key has n hash b);rw[hX,hlx] at ff;rw[Hl] at yS;rw[yT];have HE:=aj (And.intro yT (And.intro hsh (And.intro hX (And.intro hlx Hl))));obtain⟨a3,c3,rfl,_,_,_,_⟩:=bq ff;have rO:=aj ff;clear yT hsh hX hlx Hl ff dt hK3 fP pd HT gx xp oZ HCg;go_simp
  iterate 5 (refine aa rfl (by rfl) (v:=?_) ?_ ?_;rotate_left;(intro w' hw';clear hw';go_simp;with_reducible rfl);go_simp)
  refine az cA ?_;clear cA
  go_wp2_with fail
  refine(kp g t BB chain hash key has n' c lc cc b w3 yS.o Ax.o kX (by omega) kZ gB FZ.o hg).mono ?_;rintro e w5 ⟨⟨v5,rfl⟩,jG,B7⟩;have LP:ae (w.grownBy w5 (some g)):=World.grownBy.trans yd.o jG;have tu:=aj (cT rO.o jG (λb' cU e=>by
   have:=(aad rO.o b' cU).1;cases e
   omega))
  have LZ:=aj B7;clear jG B7 rO yS Ax FZ yd
  go_wp2_with fail
  go_ret2
  obtain⟨e1,e2,e3,e4,e5⟩:=HE.o;rw[e1,e2,e3,e4,e5];exact⟨_,rfl,LP.o,LZ.o,tu.o⟩
 ·have hsh:wg hash key has n b=hash:=by rw[wg,if_neg yT]
  have hX:og key has n hash b=[]:=by
   unfold og;unfold mZ at yT;split at yT
   ·exact absurd rfl yT
   ·rename_i h1
    rw[if_neg h1];split at yT
    ·rename_i h2;rw[if_pos h2]
    ·rename_i h2
     rw[if_neg h2];split at yT
     ·exact absurd rfl yT
     ·rename_i h3;rw[if_neg h3]
  obtain⟨er,qc⟩:=aW (mZ key has n hash b);obtain⟨n',Hl⟩:=aW (ri key has n hash b);rw[Hl] at yS;rw[qc] at yT⊢;have att:¬(er:Int)=0:=by omega
  have HE:=aj (And.intro qc (And.intro hsh (And.intro hX Hl)));obtain⟨a3,c3,rfl,_,_,_,_⟩:=bq ff;clear qc hsh hX Hl ff dt hK3 fP pd HT gx xp oZ HCg;go_simp
  iterate 5 (refine aa rfl (by rfl) (v:=?_) ?_ ?_;rotate_left;(intro w' hw';clear hw';go_simp;with_reducible rfl);go_simp)
  refine az cA ?_;clear cA
  go_wp2_with fail
  go_ret2
  obtain⟨e1,e2,e3,e4⟩:=HE.o;rw[e1,e2,e3,e4];exact⟨_,rfl,yd.o,yS.o,⟨rfl,.inl ⟨rfl,rfl⟩⟩⟩
theorem FA {P:Program}{fn:Func}{p q:Tmp}{ty:TypeId}(h:fn.results= #[.cell p ty,.cell q ty])(tmps:Array Value)(w:aw)(g1 g2:Nat)(t:TypeId)(A B:Array Value)(d:TypeDesc)
  (hp:tmps.getD p ag= .pointer (some ⟨g1,0,none⟩)) (hq:tmps.getD q ag= .pointer (some ⟨g2,0,none⟩))
  (h1:w.heap[g1]?=some (.cells A t (0,0))) (h2:w.heap[g2]?=some (.cells B t (0,0)))
  (hu:P.underlying ty=some d) (hd:(match d with| .struct _| .array _ _=>true|_=>false)=true) (hA:(P.info? ty).map (·.size)=some A.size) (hB:(P.info? ty).map (·.size)=some B.size):
  (results fn tmps).run P w= .ok (.tuple #[.agg A,.agg B]) w:=by
 have ND:tmps[p]?.getD ag= .pointer (some ⟨g1,0,none⟩):=by simpa using hp
 have NF:tmps[q]?.getD ag= .pointer (some ⟨g2,0,none⟩):=by simpa using hq
 simp[results,h,ND,NF,asAddr,run_loadVar_row w g1 t ty A (0,0) d h1 hu hd hA,run_loadVar_row w g2 t ty B (0,0) d h2 hu hd hB]
def mU (p q:Nat)(w w':aw):Prop:=(p<w.heap.size→q<w.heap.size→w'.heap[p]?=w.heap[p]?∧w'.heap[q]?=w.heap[q]?)∧w.heap.size≤w'.heap.size
theorem mU.refl (p q:Nat)(w:aw):mU p q w w:=⟨λ_ _=>⟨rfl,rfl⟩,di _⟩
theorem mU.trans (p q:Nat)(w1 w2 w3:aw)(h:mU p q w1 w2)(h':mU p q w2 w3):mU p q w1 w3:=
 ⟨λa b=>by obtain⟨x1,x2⟩:=h.1 a b;obtain⟨y1,y2⟩:=h'.1 (tV a h.2) (tV b h.2);exact⟨y1.trans x1,y2.trans x2⟩,kx h.2 h'.2⟩
theorem mU.below {p q:Nat}{w w':aw}(h:Below w.heap.size w w'):mU p q w w':=⟨λa b=>⟨h.block p a,h.block q b⟩,h.size⟩
theorem mU.setRow {p q s:Nat}(w:aw)(c:Array Value)(h1:p≠s)(h2:q≠s):mU p q w (w.setRow s c):=⟨λ_ _=>⟨setRow_other w s p c h1,setRow_other w s q c h2⟩,by simp⟩
theorem Ea (g t:Nat)(BB:bK)(chain hash key:aO)(has:Bool)(n:Nat)(w:aw)(hM:KM w g t BB chain hash key has n)(ec:ke w):
  Calls prog 41 #[.pointer (some ⟨g,0,none⟩)] w λe w'=>e= .returned (.tuple #[.agg (dM (gH chain []) true 0).toArray,.agg (dM (nS chain []) true 0).toArray])∧Below w.heap.size w w':=by
 have oa:=hM.lt;have jc:=hM.c;obtain⟨W0,gK⟩:∃W,(w.alloc (.cells zo 42)).alloc (.cells zo 42)=W:=⟨_,rfl⟩;have ik:Below w.heap.size w W0:=by rw[←gK];exact eF.alloc (by simp) _
 have pH:W0.heap[w.heap.size]?=some (.cells zo 42 (0,0)):=by rw[←gK,jE _ _ _ (by simp),eC]
 have uZ:W0.heap[w.heap.size+1]?=some (.cells zo 42 (0,0)):=by have:=eC (w.alloc (.cells zo 42)) (.cells zo 42);rw[fx] at this;rw[←gK];exact this
 have ve:W0.heap.size=w.heap.size+2:=by rw[←gK];simp
 have EX:=aj (hM.later ik);have sB:=aj (ec.later ik);have Ud:=aj pH;have WO:=aj uZ;have EW:=aj ik;have HI:ae ((prog.info? 24).map (·.size)=some (chain.map bv).length):=by
  have e1:(prog.info? 24).map (·.size)=some 32:=by kernel_rfl
  show _=_;rw[e1];simp[jc]
 have pX:=aj gK;obtain⟨D1,sT⟩:∃D,gH chain []=D:=⟨_,rfl⟩;obtain⟨D2,xj⟩:∃D,nS chain []=D:=⟨_,rfl⟩;obtain⟨D3,Ps⟩:∃D,CS chain []=D:=⟨_,rfl⟩;have l1:D1.length=32:=by rw[←sT];exact cS _ _
 have l2:D2.length=32:=by rw[←xj];exact cS _ _
 have l3:D3.length=32:=by rw[←Ps];exact cS _ _
 have HD:=aj (And.intro sT (And.intro xj Ps));rw[sT,xj];clear hM ec ik pH uZ sT xj Ps
 go_enter func41,ntmps41
 refine wp_seq (wp_cut (λa W=>a={tmps:=#[.pointer (some ⟨g,0,none⟩),ag,.pointer (some ⟨w.heap.size,0,none⟩),.pointer (some ⟨w.heap.size+1,0,none⟩),ag,ag,ag,ag,ag,ag,ag,ag,ag,ag,ag,ag,ag,ag,ag,ag],defers:=[]}∧W=W0) ?_ ?_)
 ·go_wp2
  rw[←pX.o]
  first|exact⟨rfl,rfl⟩|rfl|trivial
 ·rintro a W ⟨rfl,rfl⟩;simp only[Exit.then];clear gK
  go_wp2_with (first|refine cD rfl 24 _ rfl g 0 rfl (chain.map bv) _ EX.o.MC underlying24 rfl HI.o ?_|fail)
  refine(D0 chain none 0 0 [] W jc ⟨rfl,.inl rfl⟩ (λ_=>rfl) (by omega) (by omega) (by unfold maxLen;omega) sB.o).mono ?_;rintro e w1 ⟨rfl,ck⟩;obtain⟨d1,d2,d3⟩:=HD.o;rw[d1,d2,d3];clear d1 d2 d3;obtain⟨X1,X2,X3,s1,s2,s3,u1,u2,eZ⟩:=D4 w1 D1 D2 D3 l1 l2 l3;simp only[aV,cz] at s1;have UW:Below W.heap.size W X3:=ck.trans (eZ.mono ck.size);have I1:ae ((prog.info? 24).map (·.size)=some (D1.map bv).toArray.size):=cW (n:=32) (by kernel_rfl) D1 l1;have I2:ae ((prog.info? 24).map (·.size)=some (D2.map bv).toArray.size):=cW (n:=32) (by kernel_rfl) D2 l2;have Bl:=aj u1;have xT:=aj u2;have hps:=ck.size;obtain⟨p,hp⟩:=aW (w1.heap.size);have HBX:=aj UW;rw[hp] at s1 s2 s3 Bl xT hps;clear eZ UW u1 u2 ck
  go_wp2_with fail
  clear s1 s2 s3 hp;obtain⟨V,hV⟩:=aW (X3.drew);have cL:Below X3.heap.size X3 V:=by rw[←hV];exact gl
  have jC:=aj (Bl.o.later cL);have gM:=aj (xT.o.later cL);have HBV:=aj (HBX.o.trans (cL.mono HBX.o.size));have pd:=aj hV;have HL:ae (∀w',mU p (p+1) V w'→w'.heap[p]?=some (.cells (D1.map bv).toArray 24 (0,0))∧w'.heap[p+1]?=some (.cells (D2.map bv).toArray 24 (0,0))):=λw' hw'=>by obtain⟨x1,x2⟩:=hw'.1 jC.o.lt gM.o.lt;exact⟨x1.trans jC.o,x2.trans gM.o⟩
  clear hV cL Bl xT HBX;refine ah (G:=mU p (p+1)) (by kernel_rfl) (mU.refl p (p+1)) (mU.trans p (p+1)) (by kernel_rfl) [(0,true),(2,true),(1,false),(3,false),(4,false),(5,false)] rfl (by kernel_rfl) ?_;intro KK cA;rw[pd.o];refine aa rfl (by rfl) (v:=.agg (D1.map bv).toArray) (λw' hw'=>ar 24 _ rfl p rfl 24 _ (0,0) _ (HL.o w' hw').1 underlying24 rfl I1.out) ?_;go_simp
  refine aa rfl (by rfl) (v:=.agg (D2.map bv).toArray) (λw' hw'=>ar 24 _ rfl (p+1) rfl 24 _ (0,0) _ (HL.o w' hw').2 underlying24 rfl I2.out) ?_;go_simp
  refine aU (f:=66) (args:=#[.agg (D1.map bv).toArray]) rfl (by rfl) (by go_simp) ?_;refine(yu D1 V l1).mono ?_;rintro e w5 ⟨rfl,iE⟩;refine⟨_,rfl,mU.below iE,?_⟩;have nY:=aj iE;clear iE;go_simp
  refine aU (f:=66) (args:=#[.agg (D2.map bv).toArray]) rfl (by rfl) (by go_simp) ?_;refine(yu D2 w5 l2).mono ?_;rintro e w6 ⟨rfl,lZ⟩;refine⟨_,rfl,mU.below lZ,?_⟩;have hVW:Below W.heap.size W w6:=(HBV.o.trans (nY.o.mono HBV.o.size)).trans (lZ.mono (kx HBV.o.size nY.o.size));have z1:=eS Ud.o hVW;have z2:=eS WO.o hVW;have hbw:=EW.o.trans (hVW.mono EW.o.size);have t1:=aL w6 w.heap.size _ _ (dM D1 true 0) z1 (by rw[dK,l1];rfl) (jL D1 true 0);have y1:=setRow_heap w6 w.heap.size _ (dM D1 true 0).toArray _ _ z1;have y2:=(setRow_other w6 w.heap.size (w.heap.size+1) (dM D1 true 0).toArray (by omega)).trans z2;have b1:=below_setRow hbw (di _) (dM D1 true 0).toArray;have g1:mU p (p+1) w6 (w6.setRow w.heap.size (dM D1 true 0).toArray):=mU.setRow w6 _ (by omega) (by omega);obtain⟨Y1,hY1⟩:∃Y,w6.setRow w.heap.size (dM D1 true 0).toArray=Y:=⟨_,rfl⟩;rw[hY1] at t1 y1 y2 b1 g1;have t2:=aL Y1 (w.heap.size+1) _ _ (dM D2 true 0) y2 (by rw[dK,l2];rfl) (jL D2 true 0);have x1:=(setRow_other Y1 (w.heap.size+1) w.heap.size (dM D2 true 0).toArray (by omega)).trans y1;have x2:=setRow_heap Y1 (w.heap.size+1) _ (dM D2 true 0).toArray _ _ y2;have b2:=below_setRow b1 (show w.heap.size≤w.heap.size+1 by omega) (dM D2 true 0).toArray;have g2:mU p (p+1) Y1 (Y1.setRow (w.heap.size+1) (dM D2 true 0).toArray):=mU.setRow Y1 _ (by omega) (by omega);obtain⟨Y2,hY2⟩:∃Y,Y1.setRow (w.heap.size+1) (dM D2 true 0).toArray=Y:=⟨_,rfl⟩;rw[hY2] at t2 x1 x2 b2 g2;have uA:=aj x1;have AD:=aj x2;have sO:=aj b2;have G1:=aj g1;have G2:=aj g2;have apq:(dM D1 true 0).length=34:=by rw[dK,l1]
  have apr:(dM D2 true 0).length=34:=by rw[dK,l2]
  have O1:=aj (gF D1 true 0 l1);have uy:=aj (gF D2 true 0 l2);clear hVW z1 z2 hbw y1 y2 b1 g1 hY1 x1 x2 b2 g2 hY2 lZ nY HBV HL jC gM Ud WO pd;go_simp
  refine bu rfl (by rfl) (w':=Y1) (by go_simp) G1.out ?_;clear t1;go_simp
  refine bu rfl (by rfl) (w':=Y2) (by go_simp) G2.out ?_;clear t2;go_simp
  refine az cA ?_;clear cA
  (try go_wp2)
  (try simp only[nu,Exit.then])
  refine bodyPost_ret (FA rfl _ _ w.heap.size (w.heap.size+1) 42 _ _ _ rfl rfl uA.o AD.o underlying42 rfl O1.o uy.o) rfl ?_;exact⟨rfl,sO.o⟩
theorem Gq (W:aw)(l:aO):(convert 9 22 (.string (S l))).run prog W= .ok (.slice (some ⟨W.heap.size,0,none⟩) (S l).size (grownCap W (S l).size 0 5)) (Lib.bytesWorld W 5 (S l)):=
 Lib.run_convert_string_bytes W 9 22 5 (S l) underlying9 underlying22 underlying5
theorem yy (W:aw)(e:TypeId)(s:ByteArray):Below W.heap.size W (Lib.bytesWorld W e s):=
 ⟨rfl,rfl,rfl,by rw[Lib.bytesWorld_size];omega,λk hk=>Lib.bytesWorld_at_old W e s k hk⟩
theorem Eb (W:aw)(e:TypeId)(l:aO):bj (Lib.bytesWorld W e (S l)) (some ⟨W.heap.size,0,none⟩) l.length l:=by
 refine⟨rfl,.inr ⟨_,0,rfl,λi hi=>?_⟩⟩;rw[Nat.zero_add,Lib.bytesWorld_cell W e (S l) i hi]
 congr 1
structure NfP (w:aw)(p:aO)(W:aw):Prop where
 res:W.heap[w.heap.size]?=some (.cells aV 24 (0,0))
 p:dz W (w.heap.size+1) 24 p
 aY:Below w.heap.size w W
theorem NfP.new (w:aw):NfP w (cz 32 0) ((w.alloc (.cells aV 24)).alloc (.cells aV 24)):=by have h1:=dz.new (w.alloc (.cells aV 24)) 24 (cz 32 0);rw[fx] at h1;refine⟨?_,h1,eF.alloc (by simp) _⟩;rw[jE _ _ _ (by simp)];exact eC w _
theorem NfP.later {w W W':aw}{p:aO}(x:NfP w p W)(hb:Below W.heap.size W W'):NfP w p W':=
 ⟨eS x.res hb,x.p.later hb,x.aY.trans (hb.mono x.aY.size)⟩
theorem Rf (l:aO)(w:aw)(hl:l.length≤100000)(ec:ke w):
  Calls prog 77 #[.string (S l)] w λe w'=>e= .returned (.agg ((dU l).map bv).toArray)∧Below w.heap.size w w':=by
 have dG:=aj ec;have Q7:ae (NfP w (cz 32 0) ((w.alloc (.cells aV 24)).alloc (.cells aV 24))):=NfP.new w;have Hu:=nB l;obtain⟨F,hF⟩:=aW (dU l);have HFe:=aj hF;rw[hF] at Hu⊢;have IF:ae ((prog.info? 24).map (·.size)=some (F.map bv).toArray.size):=cW (n:=32) (by kernel_rfl) F Hu;have jH:(S l).size=l.length:=rfl;obtain⟨n,hn⟩:=aW (l.length);rw[hn] at jH hl;have HN:=aj hn;clear ec hF hn
 by_cases Gj:32<n
 ·have hli:(32:Int)<(n:Int):=by omega
  have hcv:=λW=>Gq W l;rw[jH] at hcv
  go_enter func77,ntmps77
  go_wp2_with fail
  refine bY (P:=λW=>Calls prog 101 _ (Lib.bytesWorld W 5 (S l)) _) (R:=λW=>W.heap.size=w.heap.size+1+1∧ae (NfP w (cz 32 0) W)) _ ⟨by simp,Q7⟩ ?_;rintro W0 ⟨ve,HF1⟩;clear Q7 hcv;have xU:=Eb W0 5 l;rw[ve,HN.o] at xU;have ik:=yy W0 5 (S l);have Su:=aj (HF1.o.later ik);have Rg:=grownCap_le_maxLen ((w.alloc (.cells aV 24)).alloc (.cells aV 24)) n 0 5 (by unfold maxLen;omega);have Bz:=grownCap_ge ((w.alloc (.cells aV 24)).alloc (.cells aV 24)) n 0 5;refine(KO (some ⟨w.heap.size+1+1,0,none⟩) n _ l _ xU (λe=>by cases e) Bz Rg (by omega) (dG.o.later Su.o.aY)).mono ?_;rintro e w1 ⟨rfl,ck⟩;have Ji:=Su.o.later ck;have hE:dc l=F:=by rw[←HFe.o];unfold dU;rw[if_pos (by rw[HN.o];exact Gj)]
  rw[hE];have xA:=aL w1 w.heap.size _ _ (F.map bv) Ji.res (by simp[Hu,aV]) (bd F);have bh:=setRow_heap w1 w.heap.size _ (F.map bv).toArray _ _ Ji.res;have bR:=aj (below_setRow Ji.aY (di _) (F.map bv).toArray);obtain⟨W5,xo⟩:=aW (w1.setRow w.heap.size (F.map bv).toArray);rw[xo] at xA bh bR;have cY:=aj bh;clear bh xo Ji Su HF1 ck ik xU Rg Bz hE
  go_wp2_with fail
  (try simp only[nu,Exit.then])
  refine bodyPost_ret (results_cell_row rfl _ _ w.heap.size 24 _ (0,0) _ rfl cY.o underlying24 rfl IF.out) rfl ?_;exact⟨rfl,bR.o⟩
 ·have hli:¬(32:Int)<(n:Int):=by omega
  have hE:F=l++cz (32-n) 0:=by rw[←HFe.o];unfold dU;rw[if_neg (by rw[HN.o];exact Gj),HN.o]
  have lY:=Lib.run_copy_row_string (P:=prog) _ 22 9 3 5 (w.heap.size+1) 0 32 32 (S l) _ _ underlying22 Tryz.info1U8 Q7.o.p (by omega) (by simp;omega);have e1:((cz 32 (0:UInt8)).map bv).toArray.toList.take 0++Lib.byteCells (S l).data.toList++((cz 32 (0:UInt8)).map bv).toArray.toList.drop (0+(S l).size)=F.map bv:=by show[]++l.map bv++((cz 32 (0:UInt8)).map bv).drop (0+(S l).size)=_;rw[Nat.zero_add,jH,List.map_replicate,List.drop_replicate,hE,List.map_append,List.map_replicate,List.nil_append]
  rw[e1,jH] at lY;have hp4:=setRow_heap _ _ _ (F.map bv).toArray _ _ Q7.o.p;have hr4:=(setRow_other _ (w.heap.size+1) w.heap.size (F.map bv).toArray (by omega)).trans Q7.o.res;have js:=below_setRow Q7.o.aY (show w.heap.size≤w.heap.size+1 by omega) (F.map bv).toArray;obtain⟨W4,fj⟩:=aW (((w.alloc (.cells aV 24)).alloc (.cells aV 24)).setRow (w.heap.size+1) (F.map bv).toArray);rw[fj] at lY hp4 hr4 js;have amm:(Builtin.copy_ #[22,9] 3 #[.slice (some ⟨w.heap.size+1,0,none⟩) 32 32,.string (S l)]).run prog ((w.alloc (.cells aV 24)).alloc (.cells aV 24))= .ok (.int .i64 (n:Int)) W4:=lY;have xA:=aL W4 w.heap.size _ _ (F.map bv) hr4 (by simp[Hu,aV]) (bd F);have bh:=setRow_heap W4 w.heap.size _ (F.map bv).toArray _ _ hr4;have bR:=aj (below_setRow js (di _) (F.map bv).toArray);obtain⟨W5,xo⟩:=aW (W4.setRow w.heap.size (F.map bv).toArray);rw[xo] at xA bh bR;have cY:=aj bh;have Yz:=aj hp4;simp only[aV,cz] at amm;clear bh xo hr4 js hp4 fj lY e1 hE Q7
  go_enter func77,ntmps77
  go_wp2_with (first|refine wpList_load_row rfl 24 _ rfl (w.heap.size+1) rfl 24 _ (0,0) _ Yz.o underlying24 rfl IF.out ?_|fail)
  (try simp only[nu,Exit.then])
  refine bodyPost_ret (results_cell_row rfl _ _ w.heap.size 24 _ (0,0) _ rfl cY.o underlying24 rfl IF.out) rfl ?_;exact⟨rfl,bR.o⟩
def UX:bK:=sN (cz 32 0) (cz 32 0) (cz 32 0) false 0
theorem YM:∀parts,prog.built 58 parts=Instr.fill (#[(0,32),(32,32),(64,34)][·]?) UX.toArray parts:=λparts=>by kernel_rfl
theorem Rh (a b:aO)(ha:a.length=32)(hb:b.length=32):prog.built 58 [(0,.agg (a.map bv).toArray),(1,.agg (b.map bv).toArray)]=some (sN a b (cz 32 0) false 0).toArray:=by
 obtain⟨Z,hZ⟩:=aW ((cz 32 (0:UInt8)).map bv);obtain⟨C,hC⟩:=aW (dM (cz 32 0) false 0);have Jy:Z.length=32:=by rw[←hZ];rfl
 have QI:C.length=34:=by rw[←hC];rfl
 rw[YM,UX,sN,sN,hZ,hC,jB _ _ 0 0 (a.map bv) _ (by simp[ha]) (by simp;omega)];have e1:(Z++(Z++C)).toArray.toList.take 0++a.map bv++(Z++(Z++C)).toArray.toList.drop (0+(a.map bv).length)=a.map bv++(Z++C):=by show(Z++(Z++C)).take 0++a.map bv++(Z++(Z++C)).drop (0+(a.map bv).length)=_;rw[List.take_zero,List.nil_append,Nat.zero_add,List.length_map,ha,List.drop_left' Jy]
 rw[e1,jB _ _ 1 32 (b.map bv) _ (by simp[hb]) (by simp[Jy,QI,ha,hb])];have e2:(a.map bv++(Z++C)).toArray.toList.take 32++b.map bv++(a.map bv++(Z++C)).toArray.toList.drop (32+(b.map bv).length)=a.map bv++(b.map bv++C):=by show(a.map bv++(Z++C)).take 32++b.map bv++(a.map bv++(Z++C)).drop (32+(b.map bv).length)=_;rw[List.take_left' (by simp[ha]),←List.append_assoc (a.map bv) Z C,List.drop_left' (by simp[ha,hb,Jy]),List.append_assoc]
 rw[e2];rfl
theorem NI {ops:Array Oper}{rest:List Oper}{o:Oper}{a:Act}{w:aw}{Q:Exit→Act→aw→Prop}(p q:aO)(hp:p.length=32)(hq:q.length=32)(hg:o.guard=none)(x y:Operand)(ho:o.op= .build 58 #[(0,x),(1,y)])
  (hx:a.eval x= .agg (p.map bv).toArray) (hy:a.eval y= .agg (q.map bv).toArray) (h:wpList prog ops Q rest (a.put o.dst (.agg (sN p q (cz 32 0) false 0).toArray)) w):wpList prog ops Q (o::rest) a w:=
 wpList_buildTo hg _ _ ho _ rfl _ (by simp[hx,hy,Rh p q hp hq]) h
theorem UY (l:aO)(w:aw)(hl:l.length≤1000)(ec:ke w):
  Calls prog 51 #[.string (S l)] w λe w'=>∃g,e= .returned (.pointer (some ⟨g,0,none⟩))∧w.heap.size≤g∧Below w.heap.size w w'∧sD w' g (dU l) (dU l) (cz 32 0) false 0:=by
 have Hu:=nB l;have dG:=aj ec;clear ec
 go_enter func51,ntmps51
 go_wp2_with fail
 refine(Rf l w (by omega) dG.o).mono ?_;rintro e w1 ⟨rfl,ck⟩;obtain⟨F,hF⟩:=aW (dU l);have HF:=aj hF;rw[hF] at Hu⊢;clear hF;have IF:ae ((prog.info? 24).map (·.size)=some (F.map bv).toArray.size):=cW (n:=32) (by kernel_rfl) F Hu;have xA:=cJ w1 24 F 32 Hu (by kernel_rfl) aV (by kernel_rfl);have hA:=dz.new w1 24 F;have cM:Below w1.heap.size w1 (w1.alloc (.cells (F.map bv).toArray 24)):=eF;obtain⟨W2,fV⟩:=aW (w1.alloc (.cells (F.map bv).toArray 24));rw[fV] at xA hA cM;simp only[aV,cz] at xA;have HA:=aj hA;have sO:=aj (ck.trans (cM.mono ck.size));clear hA cM fV ck
 go_wp2_with (first|refine wpList_load_row rfl 24 _ rfl w1.heap.size rfl 24 _ (0,0) _ HA.o underlying24 rfl IF.out ?_|refine NI F F Hu Hu rfl (.tmp 6) (.tmp 7) rfl rfl rfl ?_|fail)
 go_ret
 exact⟨W2.heap.size,rfl,sO.o.size,sO.o.alloc sO.o.size _,by rw[HF.o];exact⟨eC W2 _,Hu,Hu,rfl⟩⟩
end Go.Proofs.YtkdpblbhcfhagaaGreatDoor
