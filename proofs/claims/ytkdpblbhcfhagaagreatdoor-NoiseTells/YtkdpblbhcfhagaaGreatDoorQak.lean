import Derived.Test.YtkdpblbhcfhagaaGreatDoorQac
namespace Go.Proofs.YtkdpblbhcfhagaaGreatDoor
open Go.Proofs.Tryz
open _root_.Nat renaming le_refl → di, le_trans → kx, lt_of_lt_of_le → tV
open Go.RowKit.Below renaming refl → bZ, heap_alloc → jE
open Go.World renaming size_alloc → fx
open _root_.Array renaming getElem?_eq_some_iff → gD
open Go renaming undef → ag, World → aw, heap_alloc_new → eC
open _root_.List renaming replicate → cz, not_mem_nil → nj, mem_cons → mg, take_of_length_le → su
open Go.Exit renaming inBlock → nu
set_option maxHeartbeats 64000000
set_option linter.unusedVariables false
set_option maxRecDepth 100000
open Go.RowKit
theorem oT (x:Int)(w:aw)(h0:0≤x)(h1:x<18446744073709551616):
  Calls prog 105 #[.int .u64 x] w λe w'=>e= .returned (.int .u64 (x % 4294967296))∧w'=w:=by
 go_enter func105,ntmps105
 go_wp2
 go_ret
 exact⟨rfl,rfl⟩
theorem pS (x:BitVec 32)(n:Int)(w:aw)(h0:0≤n)(h1:n≤32):
  Calls prog 130 #[.int .u64 (x.toNat:Int),.int .i64 n] w λe w'=>e= .returned (.int .u64 ((ZB x n).toNat:Int))∧w'=w:=by
 have hx:=x.isLt
 go_enter func130,ntmps130
 go_wp2_with (go_at_call 144;refine(C5 x (32-n) _).mono ?_;rintro e w' ⟨rfl,rfl⟩)
 go_ret
 exact⟨rfl,rfl⟩
theorem nG {w:aw}{g off n cap:Nat}{l:List (BitVec 32)}(h:dJ w 40 (some ⟨g,off,none⟩) n cap (l.map wv))(p:Nat)(hp:p<n)(s:BitVec 32):
  dJ (w.drew.setCell ⟨g,off+p,none⟩ (wv s)) 40 (some ⟨g,off,none⟩) n cap ((l.set p s).map wv)∧w.grownBy (w.drew.setCell ⟨g,off+p,none⟩ (wv s)) (some g):=by
 refine⟨by rw[List.map_set];exact h.drew.set p hp _,rfl,rfl,rfl,by simp,λj hj eL=>?_⟩;rw[heap_setCell_other w.drew ⟨g,off+p,none⟩ j _ (λe=>eL (by rw[e]))];rfl
theorem KV (x y z:BitVec 32):((x.toNat+y.toNat+z.toNat:Nat):Int) % 4294967296=((x+y+z).toNat:Int):=by rw[BitVec.toNat_add,BitVec.toNat_add];omega
theorem KW (x y:BitVec 32):((x.toNat+y.toNat:Nat):Int) % 4294967296=((x+y).toNat:Int):=by rw[BitVec.toNat_add];omega
theorem uG (g off cap n:Nat)(l0:List (BitVec 32))(a b c d:Nat)(x y:BitVec 32)(w0:aw)(hS:dJ w0 40 (some ⟨g,off,none⟩) n cap (l0.map wv))(ha:a<n)(hb:b<n)(hc:c<n)(hd:d<n):
  Calls prog 107 #[.slice (some ⟨g,off,none⟩) n cap,.int .i64 a,.int .i64 b,.int .i64 c,.int .i64 d,.int .u64 (x.toNat:Int),.int .u64 (y.toNat:Int)] w0 λe w'=>(∃v,e= .returned v)∧dJ w' 40 (some ⟨g,off,none⟩) n cap ((zf l0 a b c d x y).map wv)∧w0.grownBy w' (some g):=by
 have Sg:=x.isLt;have hyl:=y.isLt;have ia:(a:Int)<(n:Int):=by omega
 have ib:(b:Int)<(n:Int):=by omega
 have ic:(c:Int)<(n:Int):=by omega
 have id:(d:Int)<(n:Int):=by omega
 have uo:ae (dJ w0 40 (some ⟨g,off,none⟩) n cap (l0.map wv)):=hS;have HG0:ae (w0.grownBy w0 (some g)):=cR w0 _;clear hS
 go_enter func107,ntmps107
 go_wp2
 obtain⟨cp0,fp0⟩:=uo.o.drew.word a ha;obtain⟨cq0,_⟩:=uo.o.drew.word b hb;obtain⟨u0,Xu⟩:∃u,bG l0 a=u:=⟨_,rfl⟩;obtain⟨t0,Xv⟩:∃t,bG l0 b=t:=⟨_,rfl⟩;rw[Xu] at cp0;rw[Xv] at cq0;have bu0:=u0.isLt;have bt0:=t0.isLt;obtain⟨N0,ny⟩:∃N,u0.toNat+t0.toNat+x.toNat=N:=⟨_,rfl⟩;have HU0:ae (IntKind.u64.wrap (IntKind.u64.wrap ((u0.toNat:Int)+(t0.toNat:Int))+(x.toNat:Int))=(N0:Int)):=by show _=_;rw[IntKind.wrap_u64,IntKind.wrap_u64];omega
 obtain⟨s0,ve⟩:∃s,u0+t0+x=s:=⟨_,rfl⟩;have gC:ae ((N0:Int) % 4294967296=(s0.toNat:Int)):=by show _=_;rw[←ny,KV,ve]
 obtain⟨Xw,Xx⟩:=nG uo.o a ha s0;obtain⟨W0,gK⟩:∃W,w0.drew=W:=⟨_,rfl⟩;rw[gK] at cp0 fp0 cq0 Xw Xx;obtain⟨w1,JY⟩:∃w',W0.setCell ⟨g,off+a,none⟩ (wv s0)=w':=⟨_,rfl⟩;rw[JY] at Xw Xx;have Hw1:ae (W0.setCell ⟨g,off+a,none⟩ (.int .u64 (s0.toNat:Int))=w1):=JY;obtain⟨l1,vg⟩:∃l',oN l0 a b x=l':=⟨_,rfl⟩;have yL:ae (oN l0 a b x=l1):=vg;have gg:ae (dJ w1 40 (some ⟨g,off,none⟩) n cap (l1.map wv)):=by rw[←vg];unfold oN;rw[Xu,Xv,ve];exact Xw
 have mL:ae (w0.grownBy w1 (some g)):=HG0.o.trans Xx;have pX:ae (w0.drew=W0):=gK;have as3:N0<18446744073709551616:=by omega
 clear Xw Xx gK JY vg ve Xu Xv ny uo HG0;refine ah (G:=bX) (by kernel_rfl) bX.refl bX.trans (by kernel_rfl) [(0,true),(1,true),(2,true),(3,true),(4,true),(5,true),(6,true),(7,true),(8,true),(9,true),(10,true),(11,true),(12,true),(13,false),(14,true),(15,false)] rfl (by kernel_rfl) ?_;intro KK0 Tg;rw[pX.o]
 iterate 13 (refine aa rfl (by rfl) (v:=?_) ?_ ?_;rotate_left;(rintro w' rfl;go_simp;with_reducible rfl);go_simp)
 refine aU (f:=105) (args:=#[.int .u64 (N0:Int)]) rfl (by rfl) (by go_simp;rw[HU0.o]) ?_;refine(oT _ _ (by omega) (by omega)).mono ?_;rintro e w' ⟨rfl,rfl⟩;refine⟨_,rfl,rfl,?_⟩;rw[gC.o];go_simp
 iterate 1 (refine aa rfl (by rfl) (v:=?_) ?_ ?_;rotate_left;(rintro w' rfl;go_simp;with_reducible rfl);go_simp)
 refine bp rfl (by rfl) (w':=w1) (by rw[←Hw1.o];go_simp) (by kernel_rfl) ?_;go_simp
 refine az Tg ?_;clear Tg pX Hw1 HU0 gC cp0 fp0 cq0 bu0 bt0
 go_wp2
 obtain⟨cp1,fp1⟩:=gg.o.drew.word d hd;obtain⟨cq1,_⟩:=gg.o.drew.word a ha;obtain⟨u1,hu1⟩:∃u,bG l1 d=u:=⟨_,rfl⟩;obtain⟨t1,Xy⟩:∃t,bG l1 a=t:=⟨_,rfl⟩;rw[hu1] at cp1;rw[Xy] at cq1;have bu1:=u1.isLt;have bt1:=t1.isLt;obtain⟨N1,jb⟩:∃N,u1^^^t1=N:=⟨_,rfl⟩;have HU1:ae (bits .xor .u64 (u1.toNat:Int) (t1.toNat:Int)=(N1.toNat:Int)):=by show _=_;rw[iQ,jb]
 obtain⟨s1,jF⟩:∃s,ZB N1 16=s:=⟨_,rfl⟩;have JZ:ae (ZB N1 16=s1):=jF;obtain⟨Xz,XC⟩:=nG gg.o d hd s1;obtain⟨W1,fg⟩:∃W,w1.drew=W:=⟨_,rfl⟩;rw[fg] at cp1 fp1 cq1 Xz XC;obtain⟨w2,JP⟩:∃w',W1.setCell ⟨g,off+d,none⟩ (wv s1)=w':=⟨_,rfl⟩;rw[JP] at Xz XC;have Hw2:ae (W1.setCell ⟨g,off+d,none⟩ (.int .u64 (s1.toNat:Int))=w2):=JP;obtain⟨l2,Au⟩:∃l',kO l1 d a 16=l':=⟨_,rfl⟩;have Qf:ae (kO l1 d a 16=l2):=Au;have oE:ae (dJ w2 40 (some ⟨g,off,none⟩) n cap (l2.map wv)):=by rw[←Au];unfold kO;rw[hu1,Xy,jb,jF];exact Xz
 have jR:ae (w0.grownBy w2 (some g)):=mL.o.trans XC;have fU:ae (w1.drew=W1):=fg;clear Xz XC fg JP Au jF hu1 Xy jb gg mL;refine ah (G:=bX) (by kernel_rfl) bX.refl bX.trans (by kernel_rfl) [(0,true),(1,true),(2,true),(3,true),(4,true),(5,true),(6,true),(7,true),(8,true),(9,true),(10,true),(11,false),(12,true),(13,false)] rfl (by kernel_rfl) ?_;intro KK1 Th;rw[fU.o]
 iterate 11 (refine aa rfl (by rfl) (v:=?_) ?_ ?_;rotate_left;(rintro w' rfl;go_simp;with_reducible rfl);go_simp)
 refine aU (f:=130) (args:=#[.int .u64 (N1.toNat:Int),.int .i64 16]) rfl (by rfl) (by go_simp;rw[HU1.o]) ?_;refine(pS N1 16 _ (by omega) (by omega)).mono ?_;rintro e w' ⟨rfl,rfl⟩;refine⟨_,rfl,rfl,?_⟩;rw[JZ.o];go_simp
 iterate 1 (refine aa rfl (by rfl) (v:=?_) ?_ ?_;rotate_left;(rintro w' rfl;go_simp;with_reducible rfl);go_simp)
 refine bp rfl (by rfl) (w':=w2) (by rw[←Hw2.o];go_simp) (by kernel_rfl) ?_;go_simp
 refine az Th ?_;clear Th fU Hw2 HU1 JZ cp1 fp1 cq1 bu1 bt1
 go_wp2
 obtain⟨cp2,fp2⟩:=oE.o.drew.word c hc;obtain⟨cq2,_⟩:=oE.o.drew.word d hd;obtain⟨u2,hu2⟩:∃u,bG l2 c=u:=⟨_,rfl⟩;obtain⟨t2,Mu⟩:∃t,bG l2 d=t:=⟨_,rfl⟩;rw[hu2] at cp2;rw[Mu] at cq2;have bu2:=u2.isLt;have bt2:=t2.isLt;obtain⟨N2,Je⟩:∃N,u2.toNat+t2.toNat=N:=⟨_,rfl⟩;have HU2:ae (IntKind.u64.wrap ((u2.toNat:Int)+(t2.toNat:Int))=(N2:Int)):=by show _=_;rw[IntKind.wrap_u64];omega
 obtain⟨s2,iJ⟩:∃s,u2+t2=s:=⟨_,rfl⟩;have Jj:ae ((N2:Int) % 4294967296=(s2.toNat:Int)):=by show _=_;rw[←Je,KW,iJ]
 obtain⟨XD,Mv⟩:=nG oE.o c hc s2;obtain⟨W2,fV⟩:∃W,w2.drew=W:=⟨_,rfl⟩;rw[fV] at cp2 fp2 cq2 XD Mv;obtain⟨w3,Mw⟩:∃w',W2.setCell ⟨g,off+c,none⟩ (wv s2)=w':=⟨_,rfl⟩;rw[Mw] at XD Mv;have Hw3:ae (W2.setCell ⟨g,off+c,none⟩ (.int .u64 (s2.toNat:Int))=w3):=Mw;obtain⟨l3,OO⟩:∃l',oO l2 c d=l':=⟨_,rfl⟩;have ZU:ae (oO l2 c d=l3):=OO;have vP:ae (dJ w3 40 (some ⟨g,off,none⟩) n cap (l3.map wv)):=by rw[←OO];unfold oO;rw[hu2,Mu,iJ];exact XD
 have yd:ae (w0.grownBy w3 (some g)):=jR.o.trans Mv;have fw:ae (w2.drew=W2):=fV;have as8:N2<18446744073709551616:=by omega
 clear XD Mv fV Mw OO iJ hu2 Mu Je oE jR;refine ah (G:=bX) (by kernel_rfl) bX.refl bX.trans (by kernel_rfl) [(0,true),(1,true),(2,true),(3,true),(4,true),(5,true),(6,true),(7,true),(8,true),(9,true),(10,true),(11,false),(12,true),(13,false)] rfl (by kernel_rfl) ?_;intro KK2 ye;rw[fw.o]
 iterate 11 (refine aa rfl (by rfl) (v:=?_) ?_ ?_;rotate_left;(rintro w' rfl;go_simp;with_reducible rfl);go_simp)
 refine aU (f:=105) (args:=#[.int .u64 (N2:Int)]) rfl (by rfl) (by go_simp;rw[HU2.o]) ?_;refine(oT _ _ (by omega) (by omega)).mono ?_;rintro e w' ⟨rfl,rfl⟩;refine⟨_,rfl,rfl,?_⟩;rw[Jj.o];go_simp
 iterate 1 (refine aa rfl (by rfl) (v:=?_) ?_ ?_;rotate_left;(rintro w' rfl;go_simp;with_reducible rfl);go_simp)
 refine bp rfl (by rfl) (w':=w3) (by rw[←Hw3.o];go_simp) (by kernel_rfl) ?_;go_simp
 refine az ye ?_;clear ye fw Hw3 HU2 Jj cp2 fp2 cq2 bu2 bt2
 go_wp2
 obtain⟨cp3,fp3⟩:=vP.o.drew.word b hb;obtain⟨cq3,_⟩:=vP.o.drew.word c hc;obtain⟨u3,hu3⟩:∃u,bG l3 b=u:=⟨_,rfl⟩;obtain⟨t3,ht3⟩:∃t,bG l3 c=t:=⟨_,rfl⟩;rw[hu3] at cp3;rw[ht3] at cq3;have bu3:=u3.isLt;have bt3:=t3.isLt;obtain⟨N3,I4⟩:∃N,u3^^^t3=N:=⟨_,rfl⟩;have HU3:ae (bits .xor .u64 (u3.toNat:Int) (t3.toNat:Int)=(N3.toNat:Int)):=by show _=_;rw[iQ,I4]
 obtain⟨s3,ur⟩:∃s,ZB N3 12=s:=⟨_,rfl⟩;have OP:ae (ZB N3 12=s3):=ur;obtain⟨XE,XF⟩:=nG vP.o b hb s3;obtain⟨W3,nV⟩:∃W,w3.drew=W:=⟨_,rfl⟩;rw[nV] at cp3 fp3 cq3 XE XF;obtain⟨w4,Wu⟩:∃w',W3.setCell ⟨g,off+b,none⟩ (wv s3)=w':=⟨_,rfl⟩;rw[Wu] at XE XF;have Hw4:ae (W3.setCell ⟨g,off+b,none⟩ (.int .u64 (s3.toNat:Int))=w4):=Wu;obtain⟨l4,Be⟩:∃l',kO l3 b c 12=l':=⟨_,rfl⟩;have OQ:ae (kO l3 b c 12=l4):=Be;have vQ:ae (dJ w4 40 (some ⟨g,off,none⟩) n cap (l4.map wv)):=by rw[←Be];unfold kO;rw[hu3,ht3,I4,ur];exact XE
 have Av:ae (w0.grownBy w4 (some g)):=yd.o.trans XF;have pI:ae (w3.drew=W3):=nV;clear XE XF nV Wu Be ur hu3 ht3 I4 vP yd;refine ah (G:=bX) (by kernel_rfl) bX.refl bX.trans (by kernel_rfl) [(0,true),(1,true),(2,true),(3,true),(4,true),(5,true),(6,true),(7,true),(8,true),(9,true),(10,true),(11,false),(12,true),(13,false)] rfl (by kernel_rfl) ?_;intro KK3 Ti;rw[pI.o]
 iterate 11 (refine aa rfl (by rfl) (v:=?_) ?_ ?_;rotate_left;(rintro w' rfl;go_simp;with_reducible rfl);go_simp)
 refine aU (f:=130) (args:=#[.int .u64 (N3.toNat:Int),.int .i64 12]) rfl (by rfl) (by go_simp;rw[HU3.o]) ?_;refine(pS N3 12 _ (by omega) (by omega)).mono ?_;rintro e w' ⟨rfl,rfl⟩;refine⟨_,rfl,rfl,?_⟩;rw[OP.o];go_simp
 iterate 1 (refine aa rfl (by rfl) (v:=?_) ?_ ?_;rotate_left;(rintro w' rfl;go_simp;with_reducible rfl);go_simp)
 refine bp rfl (by rfl) (w':=w4) (by rw[←Hw4.o];go_simp) (by kernel_rfl) ?_;go_simp
 refine az Ti ?_;clear Ti pI Hw4 HU3 OP cp3 fp3 cq3 bu3 bt3
 go_wp2
 obtain⟨cp4,fp4⟩:=vQ.o.drew.word a ha;obtain⟨cq4,_⟩:=vQ.o.drew.word b hb;obtain⟨u4,hu4⟩:∃u,bG l4 a=u:=⟨_,rfl⟩;obtain⟨t4,ht4⟩:∃t,bG l4 b=t:=⟨_,rfl⟩;rw[hu4] at cp4;rw[ht4] at cq4;have bu4:=u4.isLt;have bt4:=t4.isLt;obtain⟨N4,Np⟩:∃N,u4.toNat+t4.toNat+y.toNat=N:=⟨_,rfl⟩;have HU4:ae (IntKind.u64.wrap (IntKind.u64.wrap ((u4.toNat:Int)+(t4.toNat:Int))+(y.toNat:Int))=(N4:Int)):=by show _=_;rw[IntKind.wrap_u64,IntKind.wrap_u64];omega
 obtain⟨s4,J0⟩:∃s,u4+t4+y=s:=⟨_,rfl⟩;have YB:ae ((N4:Int) % 4294967296=(s4.toNat:Int)):=by show _=_;rw[←Np,KV,J0]
 obtain⟨XG,XH⟩:=nG vQ.o a ha s4;obtain⟨W4,fj⟩:∃W,w4.drew=W:=⟨_,rfl⟩;rw[fj] at cp4 fp4 cq4 XG XH;obtain⟨w5,Mx⟩:∃w',W4.setCell ⟨g,off+a,none⟩ (wv s4)=w':=⟨_,rfl⟩;rw[Mx] at XG XH;have ZV:ae (W4.setCell ⟨g,off+a,none⟩ (.int .u64 (s4.toNat:Int))=w5):=Mx;obtain⟨l5,Qg⟩:∃l',oN l4 a b y=l':=⟨_,rfl⟩;have Ch:ae (oN l4 a b y=l5):=Qg;have yg:ae (dJ w5 40 (some ⟨g,off,none⟩) n cap (l5.map wv)):=by rw[←Qg];unfold oN;rw[hu4,ht4,J0];exact XG
 have LP:ae (w0.grownBy w5 (some g)):=Av.o.trans XH;have Ci:ae (w4.drew=W4):=fj;have atc:N4<18446744073709551616:=by omega
 clear XG XH fj Mx Qg J0 hu4 ht4 Np vQ Av;refine ah (G:=bX) (by kernel_rfl) bX.refl bX.trans (by kernel_rfl) [(0,true),(1,true),(2,true),(3,true),(4,true),(5,true),(6,true),(7,true),(8,true),(9,true),(10,true),(11,true),(12,true),(13,false),(14,true),(15,false)] rfl (by kernel_rfl) ?_;intro KK4 Tj;rw[Ci.o]
 iterate 13 (refine aa rfl (by rfl) (v:=?_) ?_ ?_;rotate_left;(rintro w' rfl;go_simp;with_reducible rfl);go_simp)
 refine aU (f:=105) (args:=#[.int .u64 (N4:Int)]) rfl (by rfl) (by go_simp;rw[HU4.o]) ?_;refine(oT _ _ (by omega) (by omega)).mono ?_;rintro e w' ⟨rfl,rfl⟩;refine⟨_,rfl,rfl,?_⟩;rw[YB.o];go_simp
 iterate 1 (refine aa rfl (by rfl) (v:=?_) ?_ ?_;rotate_left;(rintro w' rfl;go_simp;with_reducible rfl);go_simp)
 refine bp rfl (by rfl) (w':=w5) (by rw[←ZV.o];go_simp) (by kernel_rfl) ?_;go_simp
 refine az Tj ?_;clear Tj Ci ZV HU4 YB cp4 fp4 cq4 bu4 bt4
 go_wp2
 obtain⟨cp5,fp5⟩:=yg.o.drew.word d hd;obtain⟨cq5,_⟩:=yg.o.drew.word a ha;obtain⟨u5,hu5⟩:∃u,bG l5 d=u:=⟨_,rfl⟩;obtain⟨t5,ht5⟩:∃t,bG l5 a=t:=⟨_,rfl⟩;rw[hu5] at cp5;rw[ht5] at cq5;have bu5:=u5.isLt;have bt5:=t5.isLt;obtain⟨N5,Wv⟩:∃N,u5^^^t5=N:=⟨_,rfl⟩;have HU5:ae (bits .xor .u64 (u5.toNat:Int) (t5.toNat:Int)=(N5.toNat:Int)):=by show _=_;rw[iQ,Wv]
 obtain⟨s5,EV⟩:∃s,ZB N5 8=s:=⟨_,rfl⟩;have td:ae (ZB N5 8=s5):=EV;obtain⟨OR,OS⟩:=nG yg.o d hd s5;obtain⟨W5,xo⟩:∃W,w5.drew=W:=⟨_,rfl⟩;rw[xo] at cp5 fp5 cq5 OR OS;obtain⟨w6,R0⟩:∃w',W5.setCell ⟨g,off+d,none⟩ (wv s5)=w':=⟨_,rfl⟩;rw[R0] at OR OS;have Hw6:ae (W5.setCell ⟨g,off+d,none⟩ (.int .u64 (s5.toNat:Int))=w6):=R0;obtain⟨l6,R4⟩:∃l',kO l5 d a 8=l':=⟨_,rfl⟩;have Ww:ae (kO l5 d a 8=l6):=R4;have Bf:ae (dJ w6 40 (some ⟨g,off,none⟩) n cap (l6.map wv)):=by rw[←R4];unfold kO;rw[hu5,ht5,Wv,EV];exact OR
 have HG6:ae (w0.grownBy w6 (some g)):=LP.o.trans OS;have wh:ae (w5.drew=W5):=xo;clear OR OS xo R0 R4 EV hu5 ht5 Wv yg LP;refine ah (G:=bX) (by kernel_rfl) bX.refl bX.trans (by kernel_rfl) [(0,true),(1,true),(2,true),(3,true),(4,true),(5,true),(6,true),(7,true),(8,true),(9,true),(10,true),(11,false),(12,true),(13,false)] rfl (by kernel_rfl) ?_;intro KK5 Tk;rw[wh.o]
 iterate 11 (refine aa rfl (by rfl) (v:=?_) ?_ ?_;rotate_left;(rintro w' rfl;go_simp;with_reducible rfl);go_simp)
 refine aU (f:=130) (args:=#[.int .u64 (N5.toNat:Int),.int .i64 8]) rfl (by rfl) (by go_simp;rw[HU5.o]) ?_;refine(pS N5 8 _ (by omega) (by omega)).mono ?_;rintro e w' ⟨rfl,rfl⟩;refine⟨_,rfl,rfl,?_⟩;rw[td.o];go_simp
 iterate 1 (refine aa rfl (by rfl) (v:=?_) ?_ ?_;rotate_left;(rintro w' rfl;go_simp;with_reducible rfl);go_simp)
 refine bp rfl (by rfl) (w':=w6) (by rw[←Hw6.o];go_simp) (by kernel_rfl) ?_;go_simp
 refine az Tk ?_;clear Tk wh Hw6 HU5 td cp5 fp5 cq5 bu5 bt5
 go_wp2
 obtain⟨cp6,fp6⟩:=Bf.o.drew.word c hc;obtain⟨cq6,_⟩:=Bf.o.drew.word d hd;obtain⟨u6,hu6⟩:∃u,bG l6 c=u:=⟨_,rfl⟩;obtain⟨t6,ht6⟩:∃t,bG l6 d=t:=⟨_,rfl⟩;rw[hu6] at cp6;rw[ht6] at cq6;have bu6:=u6.isLt;have bt6:=t6.isLt;obtain⟨N6,hN6⟩:∃N,u6.toNat+t6.toNat=N:=⟨_,rfl⟩;have HU6:ae (IntKind.u64.wrap ((u6.toNat:Int)+(t6.toNat:Int))=(N6:Int)):=by show _=_;rw[IntKind.wrap_u64];omega
 obtain⟨s6,BQ⟩:∃s,u6+t6=s:=⟨_,rfl⟩;have HV6:ae ((N6:Int) % 4294967296=(s6.toNat:Int)):=by show _=_;rw[←hN6,KW,BQ]
 obtain⟨R5,R6⟩:=nG Bf.o c hc s6;obtain⟨W6,My⟩:∃W,w6.drew=W:=⟨_,rfl⟩;rw[My] at cp6 fp6 cq6 R5 R6;obtain⟨w7,XI⟩:∃w',W6.setCell ⟨g,off+c,none⟩ (wv s6)=w':=⟨_,rfl⟩;rw[XI] at R5 R6;have Hw7:ae (W6.setCell ⟨g,off+c,none⟩ (.int .u64 (s6.toNat:Int))=w7):=XI;obtain⟨l7,Tm⟩:∃l',oO l6 c d=l':=⟨_,rfl⟩;have OT:ae (oO l6 c d=l7):=Tm;have Qi:ae (dJ w7 40 (some ⟨g,off,none⟩) n cap (l7.map wv)):=by rw[←Tm];unfold oO;rw[hu6,ht6,BQ];exact R5
 have Wx:ae (w0.grownBy w7 (some g)):=HG6.o.trans R6;have G9:ae (w6.drew=W6):=My;have ath:N6<18446744073709551616:=by omega
 clear R5 R6 My XI Tm BQ hu6 ht6 hN6 Bf HG6;refine ah (G:=bX) (by kernel_rfl) bX.refl bX.trans (by kernel_rfl) [(0,true),(1,true),(2,true),(3,true),(4,true),(5,true),(6,true),(7,true),(8,true),(9,true),(10,true),(11,false),(12,true),(13,false)] rfl (by kernel_rfl) ?_;intro KK6 Tn;rw[G9.o]
 iterate 11 (refine aa rfl (by rfl) (v:=?_) ?_ ?_;rotate_left;(rintro w' rfl;go_simp;with_reducible rfl);go_simp)
 refine aU (f:=105) (args:=#[.int .u64 (N6:Int)]) rfl (by rfl) (by go_simp;rw[HU6.o]) ?_;refine(oT _ _ (by omega) (by omega)).mono ?_;rintro e w' ⟨rfl,rfl⟩;refine⟨_,rfl,rfl,?_⟩;rw[HV6.o];go_simp
 iterate 1 (refine aa rfl (by rfl) (v:=?_) ?_ ?_;rotate_left;(rintro w' rfl;go_simp;with_reducible rfl);go_simp)
 refine bp rfl (by rfl) (w':=w7) (by rw[←Hw7.o];go_simp) (by kernel_rfl) ?_;go_simp
 refine az Tn ?_;clear Tn G9 Hw7 HU6 HV6 cp6 fp6 cq6 bu6 bt6
 go_wp2
 obtain⟨cp7,fp7⟩:=Qi.o.drew.word b hb;obtain⟨cq7,_⟩:=Qi.o.drew.word c hc;obtain⟨u7,hu7⟩:∃u,bG l7 b=u:=⟨_,rfl⟩;obtain⟨t7,ht7⟩:∃t,bG l7 c=t:=⟨_,rfl⟩;rw[hu7] at cp7;rw[ht7] at cq7;have bu7:=u7.isLt;have bt7:=t7.isLt;obtain⟨N7,hN7⟩:∃N,u7^^^t7=N:=⟨_,rfl⟩;have HU7:ae (bits .xor .u64 (u7.toNat:Int) (t7.toNat:Int)=(N7.toNat:Int)):=by show _=_;rw[iQ,hN7]
 obtain⟨s7,XJ⟩:∃s,ZB N7 7=s:=⟨_,rfl⟩;have R7:ae (ZB N7 7=s7):=XJ;obtain⟨R8,Sc⟩:=nG Qi.o b hb s7;obtain⟨W7,Qj⟩:∃W,w7.drew=W:=⟨_,rfl⟩;rw[Qj] at cp7 fp7 cq7 R8 Sc;obtain⟨w8,To⟩:∃w',W7.setCell ⟨g,off+b,none⟩ (wv s7)=w':=⟨_,rfl⟩;rw[To] at R8 Sc;have Hw8:ae (W7.setCell ⟨g,off+b,none⟩ (.int .u64 (s7.toNat:Int))=w8):=To;obtain⟨l8,Se⟩:∃l',kO l7 b c 7=l':=⟨_,rfl⟩;have I5:ae (kO l7 b c 7=l8):=Se;have J2:ae (dJ w8 40 (some ⟨g,off,none⟩) n cap (l8.map wv)):=by rw[←Se];unfold kO;rw[hu7,ht7,hN7,XJ];exact R8
 have Mz:ae (w0.grownBy w8 (some g)):=Wx.o.trans Sc;have J3:ae (w7.drew=W7):=Qj;clear R8 Sc Qj To Se XJ hu7 ht7 hN7 Qi Wx;refine ah (G:=bX) (by kernel_rfl) bX.refl bX.trans (by kernel_rfl) [(0,true),(1,true),(2,true),(3,true),(4,true),(5,true),(6,true),(7,true),(8,true),(9,true),(10,true),(11,false),(12,true),(13,false)] rfl (by kernel_rfl) ?_;intro KK7 Tq;rw[J3.o]
 iterate 11 (refine aa rfl (by rfl) (v:=?_) ?_ ?_;rotate_left;(rintro w' rfl;go_simp;with_reducible rfl);go_simp)
 refine aU (f:=130) (args:=#[.int .u64 (N7.toNat:Int),.int .i64 7]) rfl (by rfl) (by go_simp;rw[HU7.o]) ?_;refine(pS N7 7 _ (by omega) (by omega)).mono ?_;rintro e w' ⟨rfl,rfl⟩;refine⟨_,rfl,rfl,?_⟩;rw[R7.o];go_simp
 iterate 1 (refine aa rfl (by rfl) (v:=?_) ?_ ?_;rotate_left;(rintro w' rfl;go_simp;with_reducible rfl);go_simp)
 refine bp rfl (by rfl) (w':=w8) (by rw[←Hw8.o];go_simp) (by kernel_rfl) ?_;go_simp
 refine az Tq ?_;clear Tq J3 Hw8 HU7 R7 cp7 fp7 cq7 bu7 bt7
 go_wp2
 go_end0
 refine⟨⟨_,rfl⟩,?_,Mz.o⟩;have e:zf l0 a b c d x y=l8:=by unfold zf;rw[yL.o,Qf.o,ZU.o,OQ.o,Ch.o,Ww.o,OT.o,I5.o]
 rw[e];exact J2.o
theorem Gk (w:aw):Calls prog 81 #[] w λe w'=>e= .returned (.slice (some ⟨w.heap.size,0,none⟩) 8 8)∧Below w.heap.size w w'∧w'.ownsRow w.heap.size 40 1 (.slice (some ⟨w.heap.size,0,none⟩) 8 8) 8 (A8.map wv):=by
 have tj:(w.alloc (.cells (A8.map wv).toArray 40)).ownsRow w.heap.size 40 1 (.slice (some ⟨w.heap.size,0,none⟩) 8 8) 8 (A8.map wv):=World.ownsRow_lit w _ 8 (di _) (by unfold maxLen;omega) rfl;have HO:ae ((w.alloc (.cells (A8.map wv).toArray 40)).ownsRow w.heap.size 40 1 (.slice (some ⟨w.heap.size,0,none⟩) 8 8) 8 (A8.map wv)):=tj;clear tj
 go_enter func81,ntmps81
 go_wp2
 go_ret
 exact⟨rfl,(bZ _ _).alloc (di _) _,HO.o⟩
def sH (i:Nat):ByteArray:=⟨((ZO.getD i []).map λk=>UInt8.ofNat (65+k)).toArray⟩
def lU:Array Value:=((List.range 10).map λi=>Value.string (sH i)).toArray
theorem YC (i k:Nat)(hi:i<10)(hk:k<16):(sH i)[k]?=some (UInt8.ofNat (65+sig i k)):=by
 have h:∀i:Fin 10,∀k:Fin 16,(sH i.val)[k.val]?=some (UInt8.ofNat (65+sig i.val k.val)):=by decide+kernel
 exact h ⟨i,hi⟩ ⟨k,hk⟩
theorem Bu (w:aw):Calls prog 106 #[] w λe w'=>e= .returned (.slice (some ⟨w.heap.size,0,none⟩) 10 10)∧Below w.heap.size w w'∧w'.heap[w.heap.size]?=some (.cells lU 9 (0,0)):=by
 have HO:ae ((w.alloc (.cells lU 9)).heap[w.heap.size]?=some (.cells lU 9 (0,0))):=eC w _
 go_enter func106,ntmps106
 go_wp2
 go_ret
 exact⟨rfl,(bZ _ _).alloc (di _) _,HO.o⟩
theorem Nq {P:Program}{o:Oper}{a:Act}{w:aw}(t:TypeId)(x y:Operand)(ho:o.op= .index t x y)(s:ByteArray)(j:Nat)(c:UInt8)(hx:a.eval x= .string s)(hy:a.eval y= .int .i64 (j:Int))(hu:P.underlying t=some .string)(hc:s[j]?=some c):
  (execOp a.eval o).run P w= .ok (.value (.int .u8 (c.toNat:Int))) w:=by
 unfold execOp;simp[ho,hx,hy,Instr.index,asIntOf,run_underlying hu,hc]
theorem KX (w:aw)(base:Nat)(v:Value)(n:Nat)(xs:List (BitVec 32))(ff:w.ownsRow base 40 1 v n (xs.map wv))(x:BitVec 32)(hb:base≤w.heap.size)(xH:n≤900):
  ∃v' w',(Builtin.append_ #[115,115] 115 #[v,.slice (some ⟨w.heap.size,0,none⟩) 1 1]).run prog (w.alloc (.cells #[.int .u64 (x.toNat:Int)] 40))= .ok v' w'∧w'.ownsRow base 40 1 v' (n+1) ((xs++[x]).map wv)∧w.grownBy w' v.ownBlock:=by
 have hs:dJ (w.alloc (.cells #[.int .u64 (x.toNat:Int)] 40)) 40 (some ⟨w.heap.size,0,none⟩) 1 1 ([x].map wv):=
  ⟨rfl,.inr ⟨w.heap.size,0,#[.int .u64 (x.toNat:Int)],rfl,eC w _,by simp,di _,λi hi=>by
   obtain rfl:i=0:=by omega
   rfl⟩⟩
 obtain⟨v',w',hr,ho,hg⟩:=gU (w.alloc (.cells #[.int .u64 (x.toNat:Int)] 40)) base v n xs (ff.alloc _) ⟨w.heap.size,0,none⟩ 1 1 [x] hs (by simp;omega) (by omega);refine⟨v',w',hr,ho,hg.os,hg.tape,hg.output,by have:=hg.size;simp at this;omega,λk hk eL=>?_⟩;rw[hg.block k (by simp;omega) eL];exact jE w _ k hk
structure BS (w:aw)(hx:Addr)(hc:Nat)(hl:List (BitVec 32))(gm cm:Nat)(ml:List (BitVec 32))(gv cv:Nat)(vl:List (BitVec 32))(W:aw):Prop where
 hs:dJ W 40 (some hx) 8 hc (hl.map wv)
 ms:dJ W 40 (some ⟨gm,0,none⟩) 16 cm (ml.map wv)
 vs:dJ W 40 (some ⟨gv,0,none⟩) 16 cv (vl.map wv)
 hv:hx.block≠gv
 mv:gm≠gv
 bv_:w.heap.size≤gv
 aY:Below w.heap.size w W
theorem Pn {w w':aw}{e:TypeId}{x:Addr}{n cap:Nat}{vs:bK}{g:Nat}(h:dJ w e (some x) n cap vs)(hg:w.grownBy w' (some g))(eL:x.block≠g):dJ w' e (some x) n cap vs:=
 h.kept λj hj=>hg.block j (h.lt j hj) (λe=>by
  have e1:x.block=j:=by simpa[bL] using hj
  exact eL (by rw[e1];exact Option.some.inj e))
theorem qb {w w':aw}{e:TypeId}{a:bW}{n cap:Nat}{vs:bK}(h:dJ w e a n cap vs)(hb:Below w.heap.size w w'):dJ w' e a n cap vs:=h.kept λj hj=>hb.block j (h.lt j hj)
theorem BS.next {w W W':aw}{hx:Addr}{hc:Nat}{hl:List (BitVec 32)}{gm cm:Nat}{ml:List (BitVec 32)}{gv cv:Nat}{vl vl':List (BitVec 32)}(h:BS w hx hc hl gm cm ml gv cv vl W)(hs:dJ W' 40 (some ⟨gv,0,none⟩) 16 cv (vl'.map wv))(hg:W.grownBy W' (some gv)):BS w hx hc hl gm cm ml gv cv vl' W':=
 ⟨Pn h.hs hg h.hv,Pn h.ms hg h.mv,hs,h.hv,h.mv,h.bv_,h.aY.grown hg h.aY.size (λk e=>by cases e;exact h.bv_)⟩
theorem BS.later {w W W':aw}{hx:Addr}{hc:Nat}{hl:List (BitVec 32)}{gm cm:Nat}{ml:List (BitVec 32)}{gv cv:Nat}{vl:List (BitVec 32)}(h:BS w hx hc hl gm cm ml gv cv vl W)(hb:Below W.heap.size W W'):BS w hx hc hl gm cm ml gv cv vl W':=
 ⟨qb h.hs hb,qb h.ms hb,qb h.vs hb,h.hv,h.mv,h.bv_,h.aY.trans (hb.mono h.aY.size)⟩
theorem jf {P:Program}{o:Oper}{a:Act}{w:aw}(t:TypeId)(x y:Operand)(ho:o.op= .index t x y)(s:ByteArray)(j:Nat)(c:UInt8)(r:Nat)(hx:a.eval x= .string s)(hy:a.eval y= .int .i64 (j:Int))(hu:P.underlying t=some .string)(hc:s[j]?=some c)(hn:(c.toNat:Int)=(r:Int)):
  (execOp a.eval o).run P w= .ok (.value (.int .u8 (r:Int))) w:=by
 rw[←hn];exact Nq t x y ho s j c hx hy hu hc
def qy (h v:List (BitVec 32))(n:Nat):List (BitVec 32):=(List.range n).map λi=>bG h i^^^bG v i^^^bG v (8+i)
theorem DQ (h v:List (BitVec 32))(n:Nat):qy h v (n+1)=qy h v n++[bG h n^^^bG v n^^^bG v (8+n)]:=by simp[qy,List.range_succ]
theorem DR {w w':aw}{e e2:TypeId}{x:Addr}{n cap:Nat}{vs:bK}{base:Nat}{v:Value}{m:Nat}{l:bK}(h:dJ w e (some x) n cap vs)(hO:w.ownsRow base e2 1 v m l)(hg:w.grownBy w' v.ownBlock)(dN:x.block<base):dJ w' e (some x) n cap vs:=
 h.kept λj hj=>hg.block j (h.lt j hj) (λee=>by
  have e1:x.block=j:=by simpa[bL] using hj
  have:=(hO.lt j ee.symm).1;omega)
theorem BS.rest {w W W':aw}{hx:Addr}{hc:Nat}{hl:List (BitVec 32)}{gm cm:Nat}{ml:List (BitVec 32)}{gv cv:Nat}{vl:List (BitVec 32)}{base:Nat}{v:Value}{m:Nat}{l:bK}(h:BS w hx hc hl gm cm ml gv cv vl W)(hO:W.ownsRow base 40 1 v m l)(hg:Rest v W W')(h1:hx.block<base)(h2:gm<base)(h3:gv<base)(h4:w.heap.size≤base):BS w hx hc hl gm cm ml gv cv vl W':=
 ⟨DR h.hs hO hg h1,DR h.ms hO hg h2,DR h.vs hO hg h3,h.hv,h.mv,h.bv_,h.aY.grown hg h.aY.size (λk e=>kx h4 (hO.lt k e).1)⟩
theorem zN (w:aw)(base:Nat)(v:Value)(n:Nat)(xs:List (BitVec 32))(ff:w.ownsRow base 40 1 v n (xs.map wv))(x:BitVec 32)(hb:base≤w.heap.size)(xH:n≤900):
  ∃v' w',(Builtin.append_ #[115,115] 115 #[v,.slice (some ⟨w.heap.size,0,none⟩) 1 1]).run prog (w.alloc (.cells #[.int .u64 (x.toNat:Int)] 40))= .ok v' w'∧w'.ownsRow base 40 1 v' (n+1) ((xs++[x]).map wv)∧(w.alloc (.cells #[.int .u64 (x.toNat:Int)] 40)).grownBy w' v.ownBlock:=by
 have hs:dJ (w.alloc (.cells #[.int .u64 (x.toNat:Int)] 40)) 40 (some ⟨w.heap.size,0,none⟩) 1 1 ([x].map wv):=
  ⟨rfl,.inr ⟨w.heap.size,0,#[.int .u64 (x.toNat:Int)],rfl,eC w _,by simp,di _,λi hi=>by
   obtain rfl:i=0:=by omega
   rfl⟩⟩
 exact gU (w.alloc (.cells #[.int .u64 (x.toNat:Int)] 40)) base v n xs (ff.alloc _) ⟨w.heap.size,0,none⟩ 1 1 [x] hs (by simp;omega) (by omega)
theorem ou (q c d:Nat)(hq:q<4)(hc:c<4)(hd:d≤12):IntKind.i64.wrap ((d:Int)+(IntKind.i64.wrap ((q:Int)+(c:Int))).tmod 4)=((d+(q+c) % 4:Nat):Int):=by
 have h1:IntKind.i64.wrap ((q:Int)+(c:Int))=((q+c:Nat):Int):=by rw[IntKind.wrap_i64];omega
 have h2:((q+c:Nat):Int).tmod 4=(((q+c) % 4:Nat):Int):=by rw[Int.tmod_eq_emod_of_nonneg (by omega)];omega
 have h3:(q+c) % 4<4:=by omega
 rw[h1,h2];generalize(q+c) % 4=m at h3⊢
 rw[IntKind.wrap_i64];omega
theorem Gl (u:BitVec 32)(n:Nat)(h:n<4294967296):bits .xor .u64 (u.toNat:Int) (n:Int)=((u^^^BitVec.ofNat 32 n).toNat:Int):=by
 have e:(n:Int)=((BitVec.ofNat 32 n).toNat:Int):=by rw[BitVec.toNat_ofNat,Nat.mod_eq_of_lt h]
 rw[e,iQ]
theorem Gm {W:aw}{gr:Nat}(h:W.heap[gr]?=some (.cells lU 9 (0,0)))(i:Nat)(hi:i<10):W.cell? ⟨gr,i,none⟩=some (.string (sH i)):=by rw[cell_of_row W gr i _ _ (0,0) h];simp[lU,hi]
theorem rR {w W w':aw}{hx:Addr}{hc:Nat}{hl:List (BitVec 32)}{gm cm:Nat}{ml:List (BitVec 32)}{gv cv:Nat}{vl:List (BitVec 32)}(h:BS w hx hc hl gm cm ml gv cv vl W)(hw:bI gv W w')(i:Nat)(hi:i<16):w'.cell? ⟨gm,i,none⟩=some (.int .u64 ((bG ml i).toNat:Int)):=by have:=(h.ms.word i hi).1;rw[Nat.zero_add] at this;exact World.grownBy.cell hw this (λe=>h.mv (by cases e;rfl))
theorem letter (i k:Nat)(hi:i<10)(hk:k<16):∃r s,sig i k=s∧s<16∧65+s=r∧(sH i)[k]?=some (UInt8.ofNat r)∧((UInt8.ofNat r).toNat:Int)=(r:Int)∧IntKind.u8.wrap ((r:Int)-65)=(s:Int):=by
 have h:=CN i k hi hk;refine⟨65+sig i k,sig i k,rfl,h,rfl,YC i k hi hk,?_,?_⟩
 ·rw[UInt8.toNat_ofNat'];omega
 ·rw[IntKind.wrap_u8];omega
theorem rS (hx:Addr)(hc:Nat)(hl:List (BitVec 32))(bb Df bc:Nat)(b:aO)(t:Nat)(last:Bool)(w:aw)(hH:dJ w 40 (some hx) 8 hc (hl.map wv))(hB:bj w (some ⟨bb,Df,none⟩) 64 b)(yQ:64≤bc)(ht:t<1000000):
  Calls prog 82 #[.slice (some hx) 8 hc,.slice (some ⟨bb,Df,none⟩) 64 bc,.int .i64 (t:Int),.bool last] w λe w'=>∃v,e= .returned v∧Below w.heap.size w w'∧w'.ownsRow w.heap.size 40 1 v 8 ((lh hl b t last).map wv):=by
 have Si:hl.length=8:=by have:=hH.1;simpa using this
 have HH:ae (dJ w 40 (some hx) 8 hc (hl.map wv)):=hH;have HB:ae (bj w (some ⟨bb,Df,none⟩) 64 b):=hB;have XV:hx.block<w.heap.size:=hH.lt hx.block rfl;have ama:=hB.lt (by omega);clear hH hB
 go_enter func82,ntmps82
 go_wp2
 go_loopw [9,10] (λv i wr=>∃k:Nat,k≤16∧i= .int .i64 ((4*k:Nat):Int)∧ae (wr.ownsRow w.heap.size 40 1 v k ((eN b k).map wv))∧ae (Below w.heap.size w wr)) (λ_ i _=>64-(intOf i).toNat)
 case atStart=>exact⟨0,by omega,rfl,World.ownsRow_made w #[] 0 (di _) (Nat.zero_le _) rfl,(bZ _ _).alloc (di _) _⟩
 case round=>
  obtain⟨k,hk,rfl,hO,hW⟩:=hrel;obtain⟨p,hp⟩:=aW (4*k);rw[hp]
  by_cases dN:k<16
  ·have i1:(p:Int)<64:=by omega
   have ij:ae ((sW b false p 4:Int)=((kL b k).toNat:Int)):=by show _=_;rw[tX,hp]
   obtain⟨v2,w2,jS,cZ,kj⟩:=KX wr w.heap.size _ k _ hO.out (kL b k) hW.out.size (by omega);have gM:ae (_):=jS;have nW:ae (w2.ownsRow w.heap.size 40 1 v2 (k+1) ((eN b (k+1)).map wv)):=by rw[tY];exact cZ
   have fw:ae (Below w.heap.size w w2):=hW.out.grown kj hW.out.size (λj hj=>(hO.out.lt j hj).1);have OU:ae (bj wr (some ⟨bb,Df,none⟩) 64 b):=HB.o.below ama hW.out;clear jS cZ kj hO hW
   go_wp2_with fail
   refine(C7 bb Df 64 bc p 4 false b wr (by unfold maxLen;omega) yQ OU.o (by omega) (by omega) (by omega)).mono ?_;rintro e w' ⟨rfl,rfl⟩;rw[ij.o]
   go_wp2_with (at_builtin;refine ao rfl (.tmp 32) (.tmp 34) 115 rfl _ _ _ _ rfl rfl gM.o ?_)
   exact⟨⟨k+1,by omega,by go_num,nW,fw⟩,by simp[intOf];omega⟩
  ·have i1:¬(p:Int)<64:=by omega
   have ek:k=16:=by omega
   have acy:=hO.out;rw[ek] at acy;obtain⟨gm,cm,rfl,atk,hms⟩:=gO acy (by omega);obtain⟨ml,rP⟩:=aW (eN b 16);rw[rP] at hms;have WK:ae (eN b 16=ml):=rP;have atl:gm<wr.heap.size:=hms.lt gm rfl;have iz:Below wr.heap.size wr (wr.alloc (.cells #[] 40)):=eF;have hHr:dJ wr 40 (some hx) 8 hc (hl.map wv):=HH.o.kept λj hj=>hW.out.block j (HH.o.lt j hj);obtain⟨v2,w2,nD,cZ,kj⟩:=gU (wr.alloc (.cells #[] 40)) wr.heap.size (.slice (some ⟨wr.heap.size,0,none⟩) 0 0) 0 [] (World.ownsRow_made wr #[] 0 (di _) (Nat.zero_le _) rfl) hx 8 hc hl (qb hHr iz) (by simp) (by omega);have vG:Below wr.heap.size wr w2:=iz.grown kj (by simp) (λk hk=>by simp[Value.ownBlock] at hk;omega);rw[List.nil_append] at cZ;have gM:ae ((Builtin.append_ #[115,115] 115 #[.slice (some ⟨wr.heap.size,0,none⟩) 0 0,.slice (some hx) 8 hc]).run prog (wr.alloc (.cells #[] 40))= .ok v2 w2):=nD;have nW:ae (w2.ownsRow wr.heap.size 40 1 v2 (0+8) (hl.map wv)):=cZ;have fw:ae (Below wr.heap.size wr w2):=vG;have HMs:ae (dJ wr 40 (some ⟨gm,0,none⟩) 16 cm (ml.map wv)):=hms;have HHr:ae (dJ wr 40 (some hx) 8 hc (hl.map wv)):=hHr;clear nD cZ kj vG hO acy iz hms hHr rP ek
   go_wp2_with (at_builtin;refine ao rfl (.tmp 36) (.tmp 37) 115 rfl _ _ _ _ rfl rfl gM.o ?_)
   refine(Gk _).mono ?_;rintro e w3 ⟨rfl,eZ,dt⟩;have ur:dJ w3 40 (some ⟨w2.heap.size,0,none⟩) 8 8 (A8.map wv):=by
    obtain⟨g3,c3,e3,_,h3⟩:=gO dt (by omega);cases e3
    exact h3
   have UB:=nW.o.kept (cG eZ) (by
    rcases h:Value.ownBlock v2 with _|j
    ·exact .inl rfl
    ·exact .inr (by simp))
   have vH:Below wr.heap.size wr w3:=fw.o.trans (eZ.mono fw.o.size);obtain⟨v4,w4,km,iw,Bj⟩:=gU w3 wr.heap.size v2 _ hl UB ⟨w2.heap.size,0,none⟩ 8 8 A8 ur vH.size (by omega);have zv:Below wr.heap.size wr w4:=vH.grown Bj vH.size (λk hk=>(UB.lt k hk).1);obtain⟨gv,cv,rfl,hbv,So⟩:=gO iw (by omega);have xM:ae ((Builtin.append_ #[115,115] 115 #[v2,.slice (some ⟨w2.heap.size,0,none⟩) 8 8]).run prog w3= .ok (.slice (some ⟨gv,0,none⟩) (0+8+8) cv) w4):=km;have vQ:ae (BS w hx hc hl gm cm ml gv cv (hl++A8) w4):=⟨qb HHr.o zv,qb HMs.o zv,So,by have:=hW.out.size;omega,by omega,by have:=hW.out.size;omega,hW.out.trans (zv.mono hW.out.size)⟩;clear km iw Bj zv vH UB ur dt eZ nW fw gM HMs HHr So hW
   go_wp2_with (at_builtin;refine ao rfl (.tmp 38) (.tmp 39) 115 rfl _ _ _ _ rfl rfl xM.o ?_)
   clear xM;obtain⟨l0,xK⟩:=aW (hl++A8);have Z7:l0.length=16:=by rw[←xK,List.length_append,Si];rfl
   rw[xK] at vQ;obtain⟨u12,acz⟩:∃u,bG l0 12=u:=⟨_,rfl⟩;obtain⟨s12,Ia⟩:∃s,u12^^^BitVec.ofNat 32 t=s:=⟨_,rfl⟩;have ahz:ae (bits .xor .u64 (u12.toNat:Int) (t:Int)=(s12.toNat:Int)):=by show _=_;rw[Gl _ _ (by omega),Ia]
   obtain⟨EZ,f12⟩:=vQ.o.vs.drew.word 12 (by omega);rw[acz] at EZ;obtain⟨OR,OS⟩:=nG vQ.o.vs 12 (by omega) s12;obtain⟨W4,fj⟩:∃W,w4.drew=W:=⟨_,rfl⟩;rw[fj] at EZ f12 OR OS;obtain⟨w5,Mx⟩:∃w',W4.setCell ⟨gv,0+12,none⟩ (wv s12)=w':=⟨_,rfl⟩;rw[Mx] at OR OS;have ZV:ae (W4.setCell ⟨gv,12,none⟩ (.int .u64 (s12.toNat:Int))=w5):=Mx;have yg:ae (BS w hx hc hl gm cm ml gv cv (l0.set 12 s12) w5):=vQ.o.next OR OS;have Ci:ae (w4.drew=W4):=fj;have htm:(t:Int) % 4294967296=(t:Int):=by omega
   clear OR OS fj Mx vQ;refine ah (G:=bX) (by kernel_rfl) bX.refl bX.trans (by kernel_rfl) [(0,true),(1,true),(2,true),(3,true),(4,true),(5,true),(6,false),(7,true),(8,true),(9,false)] rfl (by kernel_rfl) ?_;intro KK8 ahA;rw[Ci.o];have htw:IntKind.u64.wrap (t:Int)=(t:Int):=by rw[IntKind.wrap_u64];omega
   iterate 6 (refine aa rfl (by rfl) (v:=?_) ?_ ?_;rotate_left;(rintro w' rfl;go_simp;with_reducible rfl);go_simp)
   refine aU (f:=105) (args:=#[.int .u64 (t:Int)]) rfl (by rfl) (by go_simp) ?_;refine(oT _ _ (by omega) (by omega)).mono ?_;rintro e w' ⟨rfl,rfl⟩;refine⟨_,rfl,rfl,?_⟩;rw[htm];go_simp
   iterate 2 (refine aa rfl (by rfl) (v:=?_) ?_ ?_;rotate_left;(rintro w' rfl;go_simp;with_reducible rfl);go_simp)
   refine bp rfl (by rfl) (w':=w5) (by rw[←ZV.o,←ahz.o];go_simp) (by kernel_rfl) ?_;go_simp
   refine az ahA ?_;clear ahA Ci ZV EZ f12 ahz;obtain⟨l1,vg⟩:=aW (l0.set 12 s12);rw[vg] at yg;obtain⟨u13,acA⟩:∃u,bG l1 13=u:=⟨_,rfl⟩;obtain⟨q,hq⟩:=aW (t/4294967296);obtain⟨YD,Q8⟩:∃s,u13^^^BitVec.ofNat 32 q=s:=⟨_,rfl⟩;have atn:bits .xor .u64 (u13.toNat:Int) (q:Int)=(YD.toNat:Int):=by rw[Gl _ _ (by omega),Q8]
   have hqi:(t:Int)/4294967296=(q:Int):=by omega
   have hqt:(t:Int).tdiv 4294967296=(q:Int):=by rw[Int.tdiv_eq_ediv_of_nonneg (by omega)];omega
   obtain⟨c13,f13⟩:=yg.o.vs.word 13 (by omega);rw[acA] at c13;have R5:dJ (w5.setCell ⟨gv,0+13,none⟩ (wv YD)) 40 (some ⟨gv,0,none⟩) 16 cv ((l1.set 13 YD).map wv):=by rw[List.map_set];exact yg.o.vs.set 13 (by omega) _
   have R6:w5.grownBy (w5.setCell ⟨gv,0+13,none⟩ (wv YD)) (some gv):=⟨rfl,rfl,rfl,by simp,λj hj eL=>heap_setCell_other w5 ⟨gv,0+13,none⟩ j _ (λe=>eL (by rw[e]))⟩;have Bf:ae (BS w hx hc hl gm cm ml gv cv (l1.set 13 YD) (w5.setCell ⟨gv,0+13,none⟩ (wv YD))):=yg.o.next R5 R6;obtain⟨w6,R0⟩:∃w',w5.setCell ⟨gv,13,none⟩ (.int .u64 (YD.toNat:Int))=w':=⟨_,rfl⟩;have Nr:ae (BS w hx hc hl gm cm ml gv cv (l1.set 13 YD) w6):=by rw[←R0];exact Bf
   obtain⟨l2,Au⟩:=aW (l1.set 13 YD);rw[Au] at Nr;obtain⟨u14,acB⟩:∃u,bG l2 14=u:=⟨_,rfl⟩;obtain⟨UC,acC⟩:∃s,u14^^^0xffffffff#32=s:=⟨_,rfl⟩;have ato:bits .xor .u64 (u14.toNat:Int) 4294967295=(UC.toNat:Int):=by have:=iQ u14 0xffffffff#32;rw[acC] at this;exact this
   obtain⟨c14,f14⟩:=Nr.o.vs.word 14 (by omega);rw[acB] at c14;have R8:dJ (w6.setCell ⟨gv,0+14,none⟩ (wv UC)) 40 (some ⟨gv,0,none⟩) 16 cv ((l2.set 14 UC).map wv):=by rw[List.map_set];exact Nr.o.vs.set 14 (by omega) _
   have Sc:w6.grownBy (w6.setCell ⟨gv,0+14,none⟩ (wv UC)) (some gv):=⟨rfl,rfl,rfl,by simp,λj hj eL=>heap_setCell_other w6 ⟨gv,0+14,none⟩ j _ (λe=>eL (by rw[e]))⟩;have Qi:ae (BS w hx hc hl gm cm ml gv cv (l2.set 14 UC) (w6.setCell ⟨gv,14,none⟩ (.int .u64 (UC.toNat:Int)))):=Nr.o.next R8 Sc;have HF:ae (iq hl t last=if last then l2.set 14 UC else l2):=by show _=_;unfold iq;simp only[xK,acz,Ia,vg,acA,hq,Q8,Au,acB,acC]
   clear R5 R6 R8 Sc Bf yg vg Au acA acB Q8 acC Ia acz xK hq;cases last
   case' false=>
    have HFz:ae (iq hl t false=l2):=by
     show _=_;have:=HF.o
     simpa using this
    obtain⟨vz,hvz⟩:=aW (l2);obtain⟨wq,hwq⟩:=aW (w6);have HSz:ae (BS w hx hc hl gm cm ml gv cv vz wq):=by rw[←hvz,←hwq];exact Nr
    clear HF Qi Nr
   case' true=>
    have HFz:ae (iq hl t true=l2.set 14 UC):=by
     show _=_;have:=HF.o
     simpa using this
    obtain⟨vz,hvz⟩:=aW (l2.set 14 UC);obtain⟨wq,hwq⟩:=aW (w6.setCell ⟨gv,14,none⟩ (.int .u64 (UC.toNat:Int)));have HSz:ae (BS w hx hc hl gm cm ml gv cv vz wq):=by rw[←hvz,←hwq];exact Qi
    clear HF Qi Nr
   all_goals
    rw[hvz] at HFz;have HF:=HFz;have HWq:ae _:=hwq;clear HFz hvz hwq
    go_wp2_with fail
    rw[HWq.o];refine(Bu _).mono ?_;rintro e w8 ⟨rfl,i9,Sv⟩;have J2:ae (BS w hx hc hl gm cm ml gv cv vz w8):=HSz.o.later i9;obtain⟨gr,cL⟩:=aW (wq.heap.size);rw[cL] at Sv⊢;have UD:gr≠gv:=by have:=HSz.o.vs.lt gv rfl;omega
    have iK:ae (w8.heap[gr]?=some (.cells lU 9 (0,0))):=Sv;clear i9 Sv cL HWq;have UE:∀i,(cQ ml i vz).length=16:=λi=>by rw[nA,←HF.o,lg _ _ _ Si]
    go_wp2
    go_loopw [15] (λiv wr=>∃i:Nat,i≤10∧iv= .int .i64 i∧ae (BS w hx hc hl gm cm ml gv cv (cQ ml i vz) wr)∧ae (wr.heap[gr]?=some (.cells lU 9 (0,0)))) (λiv _=>10-(intOf iv).toNat)
    case atStart=>exact⟨0,by omega,rfl,J2,iK⟩
    case round=>
     clear J2 iK;obtain⟨i,hi,rfl,hS,hR⟩:=hrel
     by_cases DS:i<10
     ·have hii:(i:Int)<10:=by omega
      have hrc:=Gm hR.out i DS
      go_wp2
      clear hrc
      go_loopw [17] (λkv wr=>∃k:Nat,k≤4∧kv= .int .i64 k∧ae (BS w hx hc hl gm cm ml gv cv (fX i ml k (cQ ml i vz)) wr)∧ae (wr.heap[gr]?=some (.cells lU 9 (0,0)))) (λkv _=>4-(intOf kv).toNat)
      case atStart=>exact⟨0,by omega,rfl,hS,hR⟩
      case round=>
       clear hS hR;obtain⟨k,hk,rfl,hS,hR⟩:=hrel
       by_cases YE:k<4
       ·obtain⟨p1,uX⟩:∃p,4+k=p:=⟨_,rfl⟩;obtain⟨p2,yM⟩:∃p,8+k=p:=⟨_,rfl⟩;obtain⟨p3,Bh⟩:∃p,12+k=p:=⟨_,rfl⟩;obtain⟨q1,Af⟩:∃q,2*k=q:=⟨_,rfl⟩;obtain⟨q2,Ag⟩:∃q,2*k+1=q:=⟨_,rfl⟩;have e1:IntKind.i64.wrap ((4:Int)+(k:Int))=(p1:Int):=by rw[IntKind.wrap_i64];omega
        have e2:IntKind.i64.wrap ((8:Int)+(k:Int))=(p2:Int):=by rw[IntKind.wrap_i64];omega
        have e3:IntKind.i64.wrap ((12:Int)+(k:Int))=(p3:Int):=by rw[IntKind.wrap_i64];omega
        have e4:IntKind.i64.wrap ((2:Int)*(k:Int))=(q1:Int):=by rw[IntKind.wrap_i64];omega
        have e5:IntKind.i64.wrap ((q1:Int)+1)=(q2:Int):=by rw[IntKind.wrap_i64];omega
        obtain⟨r1,s1,jF,Ns,BR,gi,s9,JY⟩:=letter i q1 DS (by omega);obtain⟨r2,s2,iJ,Nt,zp,jM,tL,JP⟩:=letter i q2 DS (by omega);have sM:(k:Int)<4:=by omega
        have acD:(s1:Int)<16:=by omega
        have acE:(s2:Int)<16:=by omega
        have hdr:Below wr.heap.size wr wr.drew:=gl;have tO:ae (BS w hx hc hl gm cm ml gv cv (fX i ml k (cQ ml i vz)) wr.drew):=hS.out.later hdr;have Fk:ae (wr.drew.heap[gr]?=some (.cells lU 9 (0,0))):=hR.out;obtain⟨x1,rm⟩:∃x,bG ml s1=x:=⟨_,rfl⟩;obtain⟨x2,Ct⟩:∃x,bG ml s2=x:=⟨_,rfl⟩;have HE:ae (fX i ml (k+1) (cQ ml i vz)=zf (fX i ml k (cQ ml i vz)) k p1 p2 p3 x1 x2):=by show _=_;rw[fX,uX,yM,Bh,Ag,Af,jF,iJ,rm,Ct]
        clear hS hR hdr
        go_wp2
        refine ah (G:=bI gv) (by kernel_rfl) (bI.refl gv) (bI.trans gv) (by kernel_rfl) [(0,true),(1,true),(2,true),(3,true),(4,true),(5,true),(6,true),(7,true),(8,true),(9,true),(10,true),(11,true),(12,true),(13,true),(14,true),(15,true),(16,true),(17,true),(18,true),(19,true),(20,true),(21,true),(22,true),(23,true),(24,true),(25,false)] rfl (by kernel_rfl) ?_;intro KK cA;generalize wr.drew=W at tO Fk⊢
        have oR:∀w',bI gv W w'→w'.cell? ⟨gm,s1,none⟩=some (.int .u64 (x1.toNat:Int)):=λw' hw'=>by rw[←rm];exact rR tO.o hw' s1 Ns
        have om:∀w',bI gv W w'→w'.cell? ⟨gm,s2,none⟩=some (.int .u64 (x2.toNat:Int)):=λw' hw'=>by rw[←Ct];exact rR tO.o hw' s2 Nt
        have Fx:ae ((∀w',bI gv W w'→w'.cell? ⟨gm,s1,none⟩=some (.int .u64 (x1.toNat:Int)))∧∀w',bI gv W w'→w'.cell? ⟨gm,s2,none⟩=some (.int .u64 (x2.toNat:Int))):=⟨oR,om⟩;have DT:ae ((sH i)[q1]?=some (UInt8.ofNat r1)∧(sH i)[q2]?=some (UInt8.ofNat r2)∧((UInt8.ofNat r1).toNat:Int)=(r1:Int)∧((UInt8.ofNat r2).toNat:Int)=(r2:Int)):=⟨gi,jM,s9,tL⟩;have uH:ae (p1<16∧p2<16∧p3<16):=⟨by omega,by omega,by omega⟩;clear oR om gi jM s9 tL jF iJ BR zp uX yM Bh Af Ag rm Ct
        iterate 12 (refine aa rfl (by rfl) (v:=?_) ?_ ?_;rotate_left;(intro w' hw';clear hw';go_simp;with_reducible rfl);go_simp)
        refine aa rfl (by rfl) (v:=.int .u8 (r1:Int)) (λw' hw'=>jf 9 _ _ rfl (sH i) q1 _ _ rfl rfl underlying9 DT.o.1 DT.o.2.2.1) ?_;go_simp
        iterate 8 (refine aa rfl (by rfl) (v:=?_) ?_ ?_;rotate_left;(intro w' hw';have z1:=Fx.o.1 w' hw';clear hw';go_simp;with_reducible rfl);go_simp)
        refine aa rfl (by rfl) (v:=.int .u8 (r2:Int)) (λw' hw'=>jf 9 _ _ rfl (sH i) q2 _ _ rfl rfl underlying9 DT.o.2.1 DT.o.2.2.2) ?_;go_simp
        iterate 3 (refine aa rfl (by rfl) (v:=?_) ?_ ?_;rotate_left;(intro w' hw';have z1:=Fx.o.2 w' hw';clear hw';go_simp;with_reducible rfl);go_simp)
        refine aU (f:=107) (args:=#[.slice (some ⟨gv,0,none⟩) 16 cv,.int .i64 k,.int .i64 p1,.int .i64 p2,.int .i64 p3,.int .u64 (x1.toNat:Int),.int .u64 (x2.toNat:Int)]) rfl (by rfl) (by go_simp) ?_;refine(uG gv 0 cv 16 _ k p1 p2 p3 x1 x2 _ tO.o.vs (by omega) uH.o.1 uH.o.2.1 uH.o.2.2).mono ?_;rintro e w9 ⟨⟨v9,rfl⟩,Q9,AL⟩;refine⟨_,rfl,AL,?_⟩;have DL:ae (BS w hx hc hl gm cm ml gv cv (fX i ml (k+1) (cQ ml i vz)) w9):=by rw[HE.o];exact tO.o.next Q9 AL
        have xt:ae (w9.heap[gr]?=some (.cells lU 9 (0,0))):=by show _=_;rw[AL.block gr (gD.1 Fk.o).1 (λe=>UD (Option.some.inj e))];exact Fk.o
        clear Q9 AL tO Fk Fx DT HE uH;go_simp
        refine az cA ?_
        go_wp2
        exact⟨⟨k+1,by omega,by go_num,DL,xt⟩,by simp[intOf];omega⟩
       ·have sM:¬(k:Int)<4:=by omega
        have ek:k=4:=by omega
        have vQ:ae (BS w hx hc hl gm cm ml gv cv (fX i ml 4 (cQ ml i vz)) wr):=by have:=hS.out;rw[ek] at this;exact this
        clear hS ek
        go_wp2
        obtain⟨vc,hvc⟩:∃x,fX i ml 4 (cQ ml i vz)=x:=⟨_,rfl⟩;rw[hvc] at vQ;have HVC:ae (fX i ml 4 (cQ ml i vz)=vc):=hvc;clear hvc
        go_loopw [18] (λkv wr=>∃k:Nat,k≤4∧kv= .int .i64 k∧ae (BS w hx hc hl gm cm ml gv cv (fk i ml k vc) wr)∧ae (wr.heap[gr]?=some (.cells lU 9 (0,0)))) (λkv _=>4-(intOf kv).toNat)
        case atStart=>exact⟨0,by omega,rfl,vQ,hR⟩
        case round=>
         clear vQ hR;obtain⟨k,hk,rfl,hS,hR⟩:=hrel
         by_cases YE:k<4
         ·obtain⟨p1,uX⟩:∃p,4+(k+1) % 4=p:=⟨_,rfl⟩;obtain⟨p2,yM⟩:∃p,8+(k+2) % 4=p:=⟨_,rfl⟩;obtain⟨p3,Bh⟩:∃p,12+(k+3) % 4=p:=⟨_,rfl⟩;obtain⟨q0,hq0⟩:∃q,2*k=q:=⟨_,rfl⟩;obtain⟨q1,Af⟩:∃q,8+q0=q:=⟨_,rfl⟩;obtain⟨q2,Ag⟩:∃q,9+q0=q:=⟨_,rfl⟩;have e1:IntKind.i64.wrap ((4:Int)+(IntKind.i64.wrap ((k:Int)+1)).tmod 4)=(p1:Int):=by rw[←uX];exact ou k 1 4 YE (by omega) (by omega)
          have e2:IntKind.i64.wrap ((8:Int)+(IntKind.i64.wrap ((k:Int)+2)).tmod 4)=(p2:Int):=by rw[←yM];exact ou k 2 8 YE (by omega) (by omega)
          have e3:IntKind.i64.wrap ((12:Int)+(IntKind.i64.wrap ((k:Int)+3)).tmod 4)=(p3:Int):=by rw[←Bh];exact ou k 3 12 YE (by omega) (by omega)
          have e4:IntKind.i64.wrap ((2:Int)*(k:Int))=(q0:Int):=by rw[IntKind.wrap_i64];omega
          have e5:IntKind.i64.wrap ((8:Int)+(q0:Int))=(q1:Int):=by rw[IntKind.wrap_i64];omega
          have e6:IntKind.i64.wrap ((9:Int)+(q0:Int))=(q2:Int):=by rw[IntKind.wrap_i64];omega
          obtain⟨r1,s1,jF,Ns,BR,gi,s9,JY⟩:=letter i q1 DS (by omega);obtain⟨r2,s2,iJ,Nt,zp,jM,tL,JP⟩:=letter i q2 DS (by omega);have sM:(k:Int)<4:=by omega
          have acD:(s1:Int)<16:=by omega
          have acE:(s2:Int)<16:=by omega
          have hdr:Below wr.heap.size wr wr.drew:=gl;have tO:ae (BS w hx hc hl gm cm ml gv cv (fk i ml k vc) wr.drew):=hS.out.later hdr;have Fk:ae (wr.drew.heap[gr]?=some (.cells lU 9 (0,0))):=hR.out;obtain⟨x1,rm⟩:∃x,bG ml s1=x:=⟨_,rfl⟩;obtain⟨x2,Ct⟩:∃x,bG ml s2=x:=⟨_,rfl⟩;have HE:ae (fk i ml (k+1) vc=zf (fk i ml k vc) k p1 p2 p3 x1 x2):=by show _=_;rw[fk,uX,yM,Bh,hq0,Ag,Af,jF,iJ,rm,Ct]
          clear hS hR hdr
          go_wp2
          refine ah (G:=bI gv) (by kernel_rfl) (bI.refl gv) (bI.trans gv) (by kernel_rfl) [(0,true),(1,true),(2,true),(3,true),(4,true),(5,true),(6,true),(7,true),(8,true),(9,true),(10,true),(11,true),(12,true),(13,true),(14,true),(15,true),(16,true),(17,true),(18,true),(19,true),(20,true),(21,true),(22,true),(23,true),(24,true),(25,true),(26,true),(27,true),(28,true),(29,true),(30,true),(31,true),(32,false)] rfl (by kernel_rfl) ?_;intro KK cA;generalize wr.drew=W at tO Fk⊢
          have oR:∀w',bI gv W w'→w'.cell? ⟨gm,s1,none⟩=some (.int .u64 (x1.toNat:Int)):=λw' hw'=>by rw[←rm];exact rR tO.o hw' s1 Ns
          have om:∀w',bI gv W w'→w'.cell? ⟨gm,s2,none⟩=some (.int .u64 (x2.toNat:Int)):=λw' hw'=>by rw[←Ct];exact rR tO.o hw' s2 Nt
          have Fx:ae ((∀w',bI gv W w'→w'.cell? ⟨gm,s1,none⟩=some (.int .u64 (x1.toNat:Int)))∧∀w',bI gv W w'→w'.cell? ⟨gm,s2,none⟩=some (.int .u64 (x2.toNat:Int))):=⟨oR,om⟩;have DT:ae ((sH i)[q1]?=some (UInt8.ofNat r1)∧(sH i)[q2]?=some (UInt8.ofNat r2)∧((UInt8.ofNat r1).toNat:Int)=(r1:Int)∧((UInt8.ofNat r2).toNat:Int)=(r2:Int)):=⟨gi,jM,s9,tL⟩;have uH:ae (p1<16∧p2<16∧p3<16):=⟨by omega,by omega,by omega⟩;clear oR om gi jM s9 tL jF iJ BR zp uX yM Bh hq0 Af Ag rm Ct
          iterate 19 (refine aa rfl (by rfl) (v:=?_) ?_ ?_;rotate_left;(intro w' hw';clear hw';go_simp;with_reducible rfl);go_simp)
          refine aa rfl (by rfl) (v:=.int .u8 (r1:Int)) (λw' hw'=>jf 9 _ _ rfl (sH i) q1 _ _ rfl rfl underlying9 DT.o.1 DT.o.2.2.1) ?_;go_simp
          iterate 8 (refine aa rfl (by rfl) (v:=?_) ?_ ?_;rotate_left;(intro w' hw';have z1:=Fx.o.1 w' hw';clear hw';go_simp;with_reducible rfl);go_simp)
          refine aa rfl (by rfl) (v:=.int .u8 (r2:Int)) (λw' hw'=>jf 9 _ _ rfl (sH i) q2 _ _ rfl rfl underlying9 DT.o.2.1 DT.o.2.2.2) ?_;go_simp
          iterate 3 (refine aa rfl (by rfl) (v:=?_) ?_ ?_;rotate_left;(intro w' hw';have z1:=Fx.o.2 w' hw';clear hw';go_simp;with_reducible rfl);go_simp)
          refine aU (f:=107) (args:=#[.slice (some ⟨gv,0,none⟩) 16 cv,.int .i64 k,.int .i64 p1,.int .i64 p2,.int .i64 p3,.int .u64 (x1.toNat:Int),.int .u64 (x2.toNat:Int)]) rfl (by rfl) (by go_simp) ?_;refine(uG gv 0 cv 16 _ k p1 p2 p3 x1 x2 _ tO.o.vs (by omega) uH.o.1 uH.o.2.1 uH.o.2.2).mono ?_;rintro e w9 ⟨⟨v9,rfl⟩,Q9,AL⟩;refine⟨_,rfl,AL,?_⟩;have DL:ae (BS w hx hc hl gm cm ml gv cv (fk i ml (k+1) vc) w9):=by rw[HE.o];exact tO.o.next Q9 AL
          have xt:ae (w9.heap[gr]?=some (.cells lU 9 (0,0))):=by show _=_;rw[AL.block gr (gD.1 Fk.o).1 (λe=>UD (Option.some.inj e))];exact Fk.o
          clear Q9 AL tO Fk Fx DT HE uH;go_simp
          refine az cA ?_
          go_wp2
          exact⟨⟨k+1,by omega,by go_num,DL,xt⟩,by simp[intOf];omega⟩
         ·have sM:¬(k:Int)<4:=by omega
          have ek:k=4:=by omega
          have DL:ae (BS w hx hc hl gm cm ml gv cv (cQ ml (i+1) vz) wr):=by have:=hS.out;rw[ek,←HVC.o] at this;exact this
          clear hS ek HVC
          go_wp2
          exact⟨⟨i+1,by omega,by go_num,DL,hR⟩,by simp[intOf];omega⟩
     ·have hii:¬(i:Int)<10:=by omega
      have ei:i=10:=by omega
      have HT:ae (BS w hx hc hl gm cm ml gv cv (cQ ml 10 vz) wr):=by have:=hS.out;rw[ei] at this;exact this
      clear hS hR ei
      go_wp2
      obtain⟨vt,hvt⟩:∃x,cQ ml 10 vz=x:=⟨_,rfl⟩;rw[hvt] at HT;have HVT:ae (cQ ml 10 vz=vt):=hvt;obtain⟨Dp,UF,rfl⟩:∃b o,hx=⟨b,o,none⟩:=by
       rcases HT.o.hs.2 with h0|⟨g,o,_,e0,_⟩
       ·omega
       ·exact⟨g,o,Option.some.inj e0⟩
      obtain⟨B0,xU⟩:∃B,wr.heap.size=B:=⟨_,rfl⟩;have ck:Dp<B0:=by rw[←xU];exact HT.o.hs.lt Dp rfl
      have cM:gm<B0:=by rw[←xU];exact HT.o.ms.lt gm rfl
      have eZ:gv<B0:=by rw[←xU];exact HT.o.vs.lt gv rfl
      have js:w.heap.size≤B0:=by rw[←xU];exact HT.o.aY.size
      have yO:ae ((wr.alloc (.cells #[] 40)).ownsRow B0 40 1 (.slice (some ⟨wr.heap.size,0,none⟩) 0 0) 0 ((qy hl vt 0).map wv)):=World.ownsRow_made wr #[] 0 (Nat.le_of_eq xU.symm) (Nat.zero_le _) rfl;have sB:ae (BS w ⟨Dp,UF,none⟩ hc hl gm cm ml gv cv vt (wr.alloc (.cells #[] 40))):=HT.o.later eF;have DA:B0≤(wr.alloc (.cells #[] 40)).heap.size:=by simp;omega
      clear hvt HT xU
      go_loopw [19,20] (λv iv wr=>∃j:Nat,j≤8∧iv= .int .i64 j∧ae (wr.ownsRow B0 40 1 v j ((qy hl vt j).map wv))∧ae (BS w ⟨Dp,UF,none⟩ hc hl gm cm ml gv cv vt wr)∧B0≤wr.heap.size) (λ_ iv _=>8-(intOf iv).toNat)
      case atStart=>exact⟨0,by omega,rfl,yO,sB,DA⟩
      case round=>
       clear yO sB;obtain⟨j,hj,rfl,hO,hS,acG⟩:=hrel
       by_cases hj8:j<8
       ·have tM:(j:Int)<8:=by omega
        have abQ:(j:Int)<16:=by omega
        obtain⟨pj,hpj⟩:∃x,8+j=x:=⟨_,rfl⟩;have ahE:(pj:Int)<16:=by omega
        have ej1:IntKind.i64.wrap ((8:Int)+(j:Int))=(pj:Int):=by rw[IntKind.wrap_i64];omega
        obtain⟨a0,ha0⟩:∃x,bG hl j=x:=⟨_,rfl⟩;obtain⟨a1,JE⟩:∃x,bG vt j=x:=⟨_,rfl⟩;obtain⟨a2,Gn⟩:∃x,bG vt pj=x:=⟨_,rfl⟩;obtain⟨y1,Hh⟩:∃x,a0^^^a1=x:=⟨_,rfl⟩;obtain⟨y2,Kg⟩:∃x,y1^^^a2=x:=⟨_,rfl⟩;have jN:bits .xor .u64 (a0.toNat:Int) (a1.toNat:Int)=(y1.toNat:Int):=by rw[iQ,Hh]
        have lf:bits .xor .u64 (y1.toNat:Int) (a2.toNat:Int)=(y2.toNat:Int):=by rw[iQ,Kg]
        have UG:ae (wr.drew.ownsRow B0 40 1 u19 j ((qy hl vt j).map wv)):=hO.out;have tO:ae (BS w ⟨Dp,UF,none⟩ hc hl gm cm ml gv cv vt wr.drew):=hS.out.later (bZ _ _).drew;have Ib:B0≤wr.drew.heap.size:=acG;have HE:ae (qy hl vt (j+1)=qy hl vt j++[y2]):=by show _=_;rw[DQ,hpj,ha0,JE,Gn,Hh,Kg]
        clear hO hS
        go_wp2
        refine ah (G:=Rest u19) (by kernel_rfl) (Rest.refl _) (Rest.trans _) (by kernel_rfl) [(0,true),(1,true),(2,true),(3,true),(4,true),(5,true),(6,true),(7,true),(8,true),(9,true),(10,true),(11,true),(12,true),(13,true),(14,true),(15,true),(16,false),(17,false),(18,true)] rfl (by kernel_rfl) ?_;intro KK cA;generalize wr.drew=W at tO UG Ib⊢
        have Fx:ae (∀w',Rest u19 W w'→w'.cell? ⟨Dp,UF+j,none⟩=some (.int .u64 (a0.toNat:Int))∧w'.cell? ⟨gv,j,none⟩=some (.int .u64 (a1.toNat:Int))∧w'.cell? ⟨gv,pj,none⟩=some (.int .u64 (a2.toNat:Int))):=λw' hw'=>by have hB:=tO.o.rest UG.o hw' ck cM eZ js;have k1:=(hB.hs.word j hj8).1;have k2:=(hB.vs.word j (by omega)).1;have k3:=(hB.vs.word pj (by omega)).1;rw[Nat.zero_add] at k2 k3;rw[ha0] at k1;rw[JE] at k2;rw[Gn] at k3;exact⟨k1,k2,k3⟩
        obtain⟨v3,w3,iu,dt,uu⟩:=zN W B0 u19 j _ UG.o y2 Ib (by omega);rw[←HE.o] at dt;have oF:Rest u19 W (W.alloc (.cells #[.int .u64 (y2.toNat:Int)] 40)):=Rest.below _ eF;have uA:ae (Rest u19 W (W.alloc (.cells #[.int .u64 (y2.toNat:Int)] 40))):=oF;have AD:ae (Rest u19 (W.alloc (.cells #[.int .u64 (y2.toNat:Int)] 40)) w3):=uu;have vP:ae (BS w ⟨Dp,UF,none⟩ hc hl gm cm ml gv cv vt w3):=tO.o.rest UG.o (Rest.trans _ _ _ _ oF uu) ck cM eZ js;have rO:ae (w3.ownsRow B0 40 1 v3 (j+1) ((qy hl vt (j+1)).map wv)):=dt;have py:ae ((Builtin.append_ #[115,115] 115 #[u19,.slice (some ⟨W.heap.size,0,none⟩) 1 1]).run prog (W.alloc (.cells #[.int .u64 (y2.toNat:Int)] 40))= .ok v3 w3):=iu;have Qp:B0≤w3.heap.size:=kx Ib (kx oF.size uu.size);clear iu dt uu oF Ib HE ha0 JE Gn Hh Kg hpj
        iterate 16 (refine aa rfl (by rfl) (v:=?_) ?_ ?_;rotate_left;(intro w' hw';obtain⟨z1,z2,z3⟩:=Fx.o w' hw';clear hw';go_simp;with_reducible rfl);go_simp)
        refine fZ rfl (by rfl) (v:=.slice (some ⟨W.heap.size,0,none⟩) 1 1) (w':=W.alloc (.cells #[.int .u64 (y2.toNat:Int)] 40)) (by go_simp) uA.o ?_;go_simp
        refine ki (s:=.tmp 147) (x:=.tmp 163) (t:=115) rfl (by rfl) rfl rfl rfl py.o AD.o ?_;clear py AD uA Fx UG tO;go_simp
        iterate 1 (refine aa rfl (by rfl) (v:=?_) ?_ ?_;rotate_left;(intro w' hw';clear hw';go_simp;with_reducible rfl);go_simp)
        refine az cA ?_
        go_wp2
        exact⟨⟨j+1,by omega,by go_num,rO,vP,Qp⟩,by simp[intOf];omega⟩
       ·have tM:¬(j:Int)<8:=by omega
        have ej:j=8:=by omega
        have hOz:=hO.out;rw[ej,←HVT.o,←HF.o,←WK.o] at hOz;have HOz:ae _:=hOz;clear hO ej hOz
        go_wp2
        go_ret
        exact⟨_,rfl,hS.out.aY,bQ HOz.o js⟩
theorem dJ.later {w w':aw}{e:TypeId}{a:bW}{n cap:Nat}{vs:bK}(h:dJ w e a n cap vs)(hb:Below w.heap.size w w'):dJ w' e a n cap vs:=
 h.kept λg hg=>hb.block g (h.lt g hg)
theorem bj.all {w w':aw}{a:bW}{n:Nat}{l:aO}(h:bj w a n l)(hb:Below w.heap.size w w'):bj w' a n l:=h.later hb
theorem bj.from {w:aw}{a:bW}{len:Nat}{l:aO}(h:bj w a len l)(p cap:Nat)(hp:p≤len)(ig:len≤cap)(dN:p<len∨p=0):
  ∃a',(∀b off,a=some ⟨b,off,none⟩→(if cap=p then some ⟨b,off,none⟩ else some ⟨b,off+p,none⟩)=a')∧(a=none→a'=none)∧bj w a' (len-p) (l.drop p):=by
 have hl:=h.1
 rcases h.2 with h0|⟨b,off,rfl,hc⟩
 ·subst h0;have Xg:p=0:=by omega
  subst Xg;have xK:l=[]:=List.eq_nil_of_length_eq_zero hl;subst xK;cases a with
  |none=>exact⟨none,λb off e=>(by cases e),λ_=>rfl,rfl,.inl rfl⟩
  |some x=>
   obtain⟨b,off,s⟩:=x
   by_cases hs:s=none
   ·subst hs;exact⟨_,λb' kf e=>(by cases e;rfl),λe=>(by cases e),rfl,.inl rfl⟩
   ·exact⟨none,λb' kf e=>(by cases e;exact absurd rfl hs),λe=>(by cases e),rfl,.inl rfl⟩
 ·by_cases lY:cap=p
  ·have hlp:len=p:=by omega
   have Xg:p=0:=by omega
   exact⟨some ⟨b,off,none⟩,λb' kf e=>(by cases e;rw[if_pos lY]),λe=>(by cases e),by simp;omega,.inl (by omega)⟩
  ·refine⟨some ⟨b,off+p,none⟩,λb' kf e=>(by cases e;rw[if_neg lY]),λe=>(by cases e),by simp;omega,.inr ⟨b,off+p,rfl,λi hi=>?_⟩⟩;rw[Nat.add_assoc,hc (p+i) (by omega)];simp[at8]
theorem Ra (k len:Nat)(h1:k=0∨64*k<len)(h2:¬64*k+64<len):k=qj len:=by unfold qj;omega
theorem wI (H:List (BitVec 32))(k:Nat)(hk:k<H.length):ew (H.take (k+1))=ew (H.take k)++im 4 (bG H k).toNat false:=by rw[List.take_succ_eq_append_getElem hk,sr,oM H k hk];simp[ew,im]
structure BH (w:aw)(l:aO)(hx:Addr)(hc k:Nat)(W:aw):Prop where
 h:dJ W 40 (some hx) 8 hc ((cX l k).map wv)
 aY:Below w.heap.size w W
def lenOf (v:Value):Nat:=match v with| .slice _ n _=>n|_=>0
theorem grownBy_alloc (w:aw)(o:Obj):Below w.heap.size w (w.alloc o):=eF
theorem KY {w w':aw}{o:Obj}{b:Option Nat}(hg:(w.alloc o).grownBy w' b)(hb:∀k,b=some k→w.heap.size≤k):Below w.heap.size w w':=(grownBy_alloc w o).grown hg (by simp) hb
structure BL (w:aw)(B:Nat)(hx:Addr)(hc:Nat)(H:List (BitVec 32))(v:Value)(n:Nat)(R:aO)(W:aw):Prop where
 own:W.ownsRow B 5 1 v n (R.map bv)
 h:dJ W 40 (some hx) 8 hc (H.map wv)
 dN:hx.block<B
 bs:B≤W.heap.size
 wB:w.heap.size≤B
 aY:Below w.heap.size w W
theorem BL.new {w wr W:aw}{hx:Addr}{hc:Nat}{H:List (BitVec 32)}{v:Value}{n:Nat}{R:aO}(hh:dJ wr 40 (some hx) 8 hc (H.map wv))(hb:Below w.heap.size w wr)(ho:W.ownsRow wr.heap.size 5 1 v n (R.map bv))(hw:Below wr.heap.size wr W):BL w wr.heap.size hx hc H v n R W:=
 ⟨ho,hh.later hw,hh.lt _ rfl,hw.size,hb.size,hb.trans (hw.mono hb.size)⟩
theorem BL.app {w W w4:aw}{B:Nat}{hx:Addr}{hc:Nat}{H:List (BitVec 32)}{v v4:Value}{n m:Nat}{R R':aO}{o:Obj}(t:BL w B hx hc H v n R W)(ho:w4.ownsRow B 5 1 v4 m (R'.map bv))(hg:(W.alloc o).grownBy w4 v.ownBlock):BL w B hx hc H v4 m R' w4:=by
 have hbs:=t.bs;have hwB:=t.wB;have dN:=t.dN;have jH:=hg.size;have ff:=t.own.lt;refine⟨ho,?_,t.dN,by simp at jH;omega,t.wB,?_⟩
 ·refine t.h.kept λg hgb=>?_;have hgx:g=hx.block:=by simpa[bL] using hgb.symm
  rw[hg.block g (by simp;omega) (λe=>by have:=(ff g e.symm).1;omega)];exact jE W o g (by omega)
 ·exact(t.aY.alloc (by omega) o).grown hg (by simp;omega) (λk hk=>by have:=(ff k hk).1;omega)
structure KZ (w:aw)(g c:Nat)(H:List (BitVec 32))(a':bW)(c' j:Nat)(W:aw):Prop where
 h:dJ W 40 (some ⟨g,0,none⟩) 8 c (H.map wv)
 out:bj W a' (4*j) (ew (H.take j))
 Rb:0<j→dJ W 5 a' (4*j) c' ((ew (H.take j)).map bv)
 nil:a'=none→c'=0
 DU:∀k,bL a'=some k→w.heap.size≤k
 aY:Below w.heap.size w W
theorem KZ.new {w W:aw}{g c:Nat}{H:List (BitVec 32)}(hs:dJ W 40 (some ⟨g,0,none⟩) 8 c (H.map wv))(hb:Below w.heap.size w W):KZ w g c H (some ⟨W.heap.size,0,none⟩) 0 0 (W.alloc (.cells #[] 5)):=
 ⟨hs.later (grownBy_alloc W _),⟨rfl,.inl rfl⟩,λh=>(by omega),λe=>(by cases e),λk hk=>(by have:=hb.size;simp[bL] at hk;omega),hb.alloc hb.size _⟩
theorem KZ.put {w W W':aw}{g c:Nat}{H:List (BitVec 32)}{a' a8:bW}{c' c8 j:Nat}(t:KZ w g c H a' c' j W)(hb:Below W.heap.size W W')(hs:dJ W' 5 a8 (4*(j+1)) c8 ((ew (H.take (j+1))).map bv))(hk:∀k,bL a8=some k→W.heap.size≤k):KZ w g c H a8 c8 (j+1) W':=by
 refine⟨t.h.later hb,bj.gS hs,λ_=>hs,?_,λk h=>kx t.aY.size (hk k h),t.aY.trans (hb.mono t.aY.size)⟩;intro e
 rcases hs.2 with⟨_,h0,_⟩|⟨_,_,_,e2,_⟩
 ·omega
 ·rw[e] at e2;cases e2
theorem j7 (a:bW)(len cap:Nat)(l:aO)(w:aw)(hB:bj w a len l)(rk:a=none→cap=0)(FW:len≤10000)(ig:len≤cap):
  Calls prog 53 #[.slice a len cap] w λe w'=>∃a' cK,e= .returned (.slice a' 32 cK)∧Below w.heap.size w w'∧dJ w' 5 a' 32 cK ((dc l).map bv)∧∀j,bL a'=some j→w.heap.size≤j:=by
 have hl:=hB.1;have HB:ae (bj w a len l):=hB;clear hB
 go_enter func53,ntmps53
 go_wp2_with fail
 refine(Gk w).mono ?_;rintro e w1 ⟨rfl,ck,xV⟩;obtain⟨_,_,e1,_,jF⟩:=dJ.jT xV (by omega);cases e1
 obtain⟨cc,fr⟩:=jF.word 0 (by omega);have iJ:=jF.set 0 (by omega) (wv 0x6b08e647#32);rw[←List.map_set] at iJ;have Yh:ae (BH w l ⟨w.heap.size,0,none⟩ 8 0 (w1.setCell ⟨w.heap.size,0,none⟩ (.int .u64 1795745351))):=⟨iJ,ck.setCell (di _) _⟩;clear jF iJ xV ck
 go_wp2
 clear cc fr
 go_loopw [3,4] (λv i wr=>∃(k:Nat) (hx:Addr) (hc:Nat),(k=0∨64*k<len)∧i= .int .i64 ((64*k:Nat):Int)∧v= .slice (some hx) 8 hc∧ae (BH w l hx hc k wr)) (λ_ i _=>len+64-(intOf i).toNat)
 case atStart=>exact⟨0,_,_,.inl rfl,rfl,rfl,Yh⟩
 case round=>
  clear Yh;obtain⟨k,hx,hc,hk,rfl,rfl,hH⟩:=hrel;obtain⟨p,hp⟩:=aW (64*k);rw[hp] at hk⊢
  by_cases dN:p+64<len
  ·have i1:(p:Int)+64<(len:Int):=by omega
   obtain⟨ba,fz,rfl⟩:∃ba fz,a=some ⟨ba,fz,none⟩:=by
    rcases HB.o.2 with h0|⟨b',kf,e,_⟩
    ·omega
    ·exact⟨b',kf,e⟩
   have JD:=HB.o.lt (by omega);have hcn:¬cap=p:=by omega
   have TL:(p:Int)≤(cap:Int):=by omega
   have hqc:(p:Int)+64≤(cap:Int):=by omega
   have Jc:=(HB.o.below JD hH.out.aY).sub (n:=p) (q:=p+64) (by omega) (by omega);have L7:p+64-p=64:=by omega
   rw[L7] at Jc;have HBw:ae (bj wr (some ⟨ba,fz+p,none⟩) 64 (fQ l (64*k) 64)):=by rw[hp];exact Jc
   clear Jc
   go_wp2_with fail
   refine(rS hx hc (cX l k) ba (fz+p) (cap-p) _ (p+64) false wr hH.out.h HBw.o (by omega) (by omega)).mono ?_;rintro e w2 ⟨v,rfl,cM,B6⟩;obtain⟨g2,c2,rfl,kj,iJ⟩:=dJ.jT B6 (by omega);have WJ:ae (BH w l ⟨g2,0,none⟩ c2 (k+1) w2):=by refine⟨?_,hH.out.aY.trans (cM.mono hH.out.aY.size)⟩;rw[cX,show 64*(k+1)=p+64 by omega];exact iJ
   clear cM B6 iJ hH HBw
   go_wp2
   exact⟨⟨k+1,⟨g2,0,none⟩,c2,.inr (by omega),by go_num,rfl,WJ⟩,by simp[intOf];omega⟩
  ·have i1:¬(p:Int)+64<(len:Int):=by omega
   have I7:k=qj len:=Ra k len (by omega) (by omega);have Dp:=hH.out.h.lt hx.block rfl;have jH:=hH.out.aY.size;obtain⟨B,O8⟩:=aW (wr.heap.size)
   by_cases h0:len=0
   ·subst h0;have Xg:p=0:=by omega
    subst Xg;have zx:ae (BL w B hx hc (cX l k) (.slice (some ⟨wr.heap.size,0,none⟩) 0 0) 0 (l.drop 0) (wr.alloc (.cells #[] 5))):=by
     have xK:l.drop 0=[]:=by rw[List.eq_nil_of_length_eq_zero hl];rfl
     rw[xK,←O8];exact BL.new (hH.out.h) hH.out.aY (World.ownsRow_made wr #[] 0 (di _) (Nat.zero_le _) rfl) (grownBy_alloc wr _)
    clear O8;cases a
    case' none=>
     have kt:=rk rfl;subst kt
    all_goals
     clear hH
     go_wp2
     go_loopw [5] (λv wr=>∃n:Nat,0-0≤n∧n≤64∧ae (BL w B hx hc (cX l k) v n (l.drop 0++cz (n-(0-0)) 0) wr)) (λv _=>64-lenOf v)
     case atStart=>exact⟨0-0,di _,by omega,by rw[Nat.sub_self,List.replicate_zero,List.append_nil];exact zx⟩
     case round=>
      clear zx;obtain⟨n,s9,tL,hL⟩:=hrel;obtain⟨a5,c5,rfl,sP,Nu,Rc,Gp⟩:=bq hL.out.own
      by_cases hn:n<64
      ·have Un:(n:Int)<64:=by omega
       have fW:bj (wr.alloc (.cells #[.int .u8 0] 5)) (some ⟨wr.heap.size,0,none⟩) 1 [0]:=jK _ [0] wr.heap.size _ _ _ (eC wr _) rfl;obtain⟨v4,w4,km,iw,Bj⟩:=cI (wr.alloc (.cells #[.int .u8 0] 5)) B _ n _ (hL.out.own.alloc _) ⟨wr.heap.size,0,none⟩ 1 1 [0] fW (by have:=hL.out.bs;simp;omega) (by omega);have HL4:ae (BL w B hx hc (cX l k) v4 (n+1) (l.drop 0++cz (n+1-(0-0)) 0) w4):=by
        have e:l.drop 0++cz (n+1-(0-0)) 0=l.drop 0++cz (n-(0-0)) 0++[0]:=by rw[show n+1-(0-0)=(n-(0-0))+1 by omega,List.replicate_succ',List.append_assoc]
        rw[e];exact hL.out.app iw Bj
       have xM:ae ((Builtin.append_ #[22,22] 22 #[.slice a5 n c5,.slice (some ⟨wr.heap.size,0,none⟩) 1 1]).run prog (wr.alloc (.cells #[.int .u8 0] 5))= .ok v4 w4):=km;have Be:lenOf v4=n+1:=by obtain⟨a',c',e',_⟩:=bq iw;rw[e'];rfl
       clear km iw Bj fW hL sP
       go_wp2_with (at_builtin;refine ao rfl (.tmp 35) (.tmp 36) 22 rfl _ _ _ _ rfl rfl xM.o ?_)
       clear xM;exact⟨⟨n+1,by omega,by omega,HL4⟩,by rw[Be];show _<64-n;omega⟩
      ·have L7:n=64:=by omega
       have Un:¬(n:Int)<64:=by omega
       have Bv:ae (l.drop 0++cz (n-(0-0)) 0=blast l):=by show _=_;rw[blast,hl,←I7,hp,L7]
       subst L7;obtain⟨ga5,rfl⟩:∃g,a5=some ⟨g,0,none⟩:=by
        obtain⟨g,c,e,_,_⟩:=dJ.jT hL.out.own (by omega);cases e
        exact⟨g,rfl⟩
       rw[Bv.o] at sP;have nY:ae (bj wr (some ⟨ga5,0,none⟩) 64 (blast l)):=sP;have wh:ae (Below w.heap.size w wr):=hL.out.aY;have yg:ae (dJ wr 40 (some hx) 8 hc ((cX l k).map wv)):=hL.out.h;clear sP hL Bv
       go_wp2_with fail
       refine(rS hx hc (cX l k) ga5 0 c5 (blast l) 0 true wr yg.o nY.o (by omega) (by omega)).mono ?_;rintro e w6 ⟨v6,rfl,lZ,L8⟩;obtain⟨g6,c6,rfl,T8,BQ⟩:=dJ.jT L8 (by omega);obtain⟨H,hH⟩:=aW (lh (cX l k) (blast l) 0 true);have WM:H.length=8:=by rw[←hH,gQ]
       have HBL:ae (dc l=ew H):=by show _=_;rw[dc,hl,←I7,hH]
       rw[hH] at BQ;have Bw:Below w.heap.size w w6:=wh.o.trans (lZ.mono wh.o.size);have yO:ae (KZ w g6 c6 H (some ⟨w6.heap.size,0,none⟩) 0 0 (w6.alloc (.cells #[] 5))):=KZ.new BQ Bw;clear lZ L8 BQ hH Bw yg nY wh
       go_wp2
       go_loopw [6,7] (λv i wr=>∃(j:Nat) (a':bW) (c':Nat),j≤8∧i= .int .i64 j∧v= .slice a' (4*j:Nat) c'∧ae (KZ w g6 c6 H a' c' j wr)) (λ_ i _=>8-(intOf i).toNat)
       case atStart=>exact⟨0,_,_,by omega,rfl,rfl,yO⟩
       case round=>
        clear yO;obtain⟨j,a',c',hj,rfl,rfl,hO⟩:=hrel
        by_cases hj8:j<8
        ·have tM:(j:Int)<8:=by omega
         obtain⟨cc,_⟩:=hO.out.h.word j (by omega);obtain⟨y,hy⟩:=aW (bG H j);rw[hy,Nat.zero_add] at cc;obtain⟨q,hq⟩:=aW (4*j);rw[hq];have HSo:ae (bj wr a' q (ew (H.take j))):=by rw[←hq];exact hO.out.out
         have hyb:=y.isLt
         go_wp2_with fail
         refine(oq a' q c' 4 y.toNat (by omega) false _ wr (by omega) HSo.o hO.out.nil 4 (by decide)).mono ?_;rintro e w8 ⟨a8,c8,rfl,i9,jm,K0⟩;have Jk:ae (KZ w g6 c6 H a8 c8 (j+1) w8):=by have e:=wI H j (by omega);rw[hy] at e;exact hO.out.put i9 (by rw[e,show 4*(j+1)=q+4 by omega];exact jm) K0
         clear i9 jm K0 hO
         go_wp2
         exact⟨⟨j+1,a8,c8,by omega,by go_num,by rw[show 4*(j+1)=q+4 by omega],Jk⟩,by simp[intOf];omega⟩
        ·have ej:j=8:=by omega
         subst ej;have tM:¬((8:Nat):Int)<8:=by omega
         have HF:ae (dJ wr 5 a' 32 c' ((dc l).map bv)):=by rw[HBL.o];have:=hO.out.Rb (by omega);rw[su (by omega)] at this;exact this
         have HFb:ae (∀j,bL a'=some j→w.heap.size≤j):=hO.out.DU;have X5:ae (Below w.heap.size w wr):=hO.out.aY;clear hO
         go_wp2
         go_ret
         exact⟨a',c',rfl,X5.o,HF.o,HFb.o⟩
   ·obtain⟨ba,fz,rfl⟩:∃ba fz,a=some ⟨ba,fz,none⟩:=by
     rcases HB.o.2 with h1|⟨b',kf,e,_⟩
     ·omega
     ·exact⟨b',kf,e⟩
    have JD:=HB.o.lt (by omega);have tN:p<len:=by omega
    have hcn:¬cap=p:=by omega
    have TL:(p:Int)≤(cap:Int):=by omega
    have atr:(p:Int)≤(len:Int):=by omega
    have Jc:=(HB.o.below JD hH.out.aY).sub (n:=p) (q:=len) (by omega) (by omega);have ed:(l.drop p).take (len-p)=l.drop p:=su (by simp;omega);rw[ed] at Jc;obtain⟨v3,w3,iu,dt,uu⟩:=cI (wr.alloc (.cells #[] 5)) wr.heap.size (.slice (some ⟨wr.heap.size,0,none⟩) 0 0) 0 [] (World.ownsRow_made wr #[] 0 (di _) (Nat.zero_le _) rfl) ⟨ba,fz+p,none⟩ (len-p) (cap-p) _ (Jc.later eF) (by simp) (by omega);rw[Nat.zero_add,List.nil_append] at dt;have zx:ae (BL w B hx hc (cX l k) v3 (len-p) (l.drop p) w3):=by rw[←O8];exact BL.new hH.out.h hH.out.aY dt (KY uu (λk hk=>by simp[Value.ownBlock] at hk;omega))
    have py:ae ((Builtin.append_ #[22,22] 22 #[.slice (some ⟨wr.heap.size,0,none⟩) 0 0,.slice (some ⟨ba,fz+p,none⟩) (len-p) (cap-p)]).run prog (wr.alloc (.cells #[] 5))= .ok v3 w3):=iu;clear iu dt uu Jc hH O8
    go_wp2_with (at_builtin;refine ao rfl (.tmp 27) (.tmp 30) 22 rfl _ _ _ _ rfl rfl py.o ?_)
    clear py
    go_loopw [5] (λv wr=>∃n:Nat,len-p≤n∧n≤64∧ae (BL w B hx hc (cX l k) v n (l.drop p++cz (n-(len-p)) 0) wr)) (λv _=>64-lenOf v)
    case atStart=>exact⟨len-p,di _,by omega,by rw[Nat.sub_self,List.replicate_zero,List.append_nil];exact zx⟩
    case round=>
     clear zx;obtain⟨n,s9,tL,hL⟩:=hrel;obtain⟨a5,c5,rfl,sP,Nu,Rc,Gp⟩:=bq hL.out.own
     by_cases hn:n<64
     ·have Un:(n:Int)<64:=by omega
      have fW:bj (wr.alloc (.cells #[.int .u8 0] 5)) (some ⟨wr.heap.size,0,none⟩) 1 [0]:=jK _ [0] wr.heap.size _ _ _ (eC wr _) rfl;obtain⟨v4,w4,km,iw,Bj⟩:=cI (wr.alloc (.cells #[.int .u8 0] 5)) B _ n _ (hL.out.own.alloc _) ⟨wr.heap.size,0,none⟩ 1 1 [0] fW (by have:=hL.out.bs;simp;omega) (by omega);have HL4:ae (BL w B hx hc (cX l k) v4 (n+1) (l.drop p++cz (n+1-(len-p)) 0) w4):=by
       have e:l.drop p++cz (n+1-(len-p)) 0=l.drop p++cz (n-(len-p)) 0++[0]:=by rw[show n+1-(len-p)=(n-(len-p))+1 by omega,List.replicate_succ',List.append_assoc]
       rw[e];exact hL.out.app iw Bj
      have xM:ae ((Builtin.append_ #[22,22] 22 #[.slice a5 n c5,.slice (some ⟨wr.heap.size,0,none⟩) 1 1]).run prog (wr.alloc (.cells #[.int .u8 0] 5))= .ok v4 w4):=km;have Be:lenOf v4=n+1:=by obtain⟨a',c',e',_⟩:=bq iw;rw[e'];rfl
      clear km iw Bj fW hL sP
      go_wp2_with (at_builtin;refine ao rfl (.tmp 35) (.tmp 36) 22 rfl _ _ _ _ rfl rfl xM.o ?_)
      clear xM;exact⟨⟨n+1,by omega,by omega,HL4⟩,by rw[Be];show _<64-n;omega⟩
     ·have L7:n=64:=by omega
      have Un:¬(n:Int)<64:=by omega
      have Bv:ae (l.drop p++cz (n-(len-p)) 0=blast l):=by show _=_;rw[blast,hl,←I7,hp,L7]
      subst L7;obtain⟨ga5,rfl⟩:∃g,a5=some ⟨g,0,none⟩:=by
       obtain⟨g,c,e,_,_⟩:=dJ.jT hL.out.own (by omega);cases e
       exact⟨g,rfl⟩
      rw[Bv.o] at sP;have nY:ae (bj wr (some ⟨ga5,0,none⟩) 64 (blast l)):=sP;have wh:ae (Below w.heap.size w wr):=hL.out.aY;have yg:ae (dJ wr 40 (some hx) 8 hc ((cX l k).map wv)):=hL.out.h;clear sP hL Bv
      go_wp2_with fail
      refine(rS hx hc (cX l k) ga5 0 c5 (blast l) len true wr yg.o nY.o (by omega) (by omega)).mono ?_;rintro e w6 ⟨v6,rfl,lZ,L8⟩;obtain⟨g6,c6,rfl,T8,BQ⟩:=dJ.jT L8 (by omega);obtain⟨H,hH⟩:=aW (lh (cX l k) (blast l) len true);have WM:H.length=8:=by rw[←hH,gQ]
      have HBL:ae (dc l=ew H):=by show _=_;rw[dc,hl,←I7,hH]
      rw[hH] at BQ;have Bw:Below w.heap.size w w6:=wh.o.trans (lZ.mono wh.o.size);have yO:ae (KZ w g6 c6 H (some ⟨w6.heap.size,0,none⟩) 0 0 (w6.alloc (.cells #[] 5))):=KZ.new BQ Bw;clear lZ L8 BQ hH Bw yg nY wh
      go_wp2
      go_loopw [6,7] (λv i wr=>∃(j:Nat) (a':bW) (c':Nat),j≤8∧i= .int .i64 j∧v= .slice a' (4*j:Nat) c'∧ae (KZ w g6 c6 H a' c' j wr)) (λ_ i _=>8-(intOf i).toNat)
      case atStart=>exact⟨0,_,_,by omega,rfl,rfl,yO⟩
      case round=>
       clear yO;obtain⟨j,a',c',hj,rfl,rfl,hO⟩:=hrel
       by_cases hj8:j<8
       ·have tM:(j:Int)<8:=by omega
        obtain⟨cc,_⟩:=hO.out.h.word j (by omega);obtain⟨y,hy⟩:=aW (bG H j);rw[hy,Nat.zero_add] at cc;obtain⟨q,hq⟩:=aW (4*j);rw[hq];have HSo:ae (bj wr a' q (ew (H.take j))):=by rw[←hq];exact hO.out.out
        have hyb:=y.isLt
        go_wp2_with fail
        refine(oq a' q c' 4 y.toNat (by omega) false _ wr (by omega) HSo.o hO.out.nil 4 (by decide)).mono ?_;rintro e w8 ⟨a8,c8,rfl,i9,jm,K0⟩;have Jk:ae (KZ w g6 c6 H a8 c8 (j+1) w8):=by have e:=wI H j (by omega);rw[hy] at e;exact hO.out.put i9 (by rw[e,show 4*(j+1)=q+4 by omega];exact jm) K0
        clear i9 jm K0 hO
        go_wp2
        exact⟨⟨j+1,a8,c8,by omega,by go_num,by rw[show 4*(j+1)=q+4 by omega],Jk⟩,by simp[intOf];omega⟩
       ·have ej:j=8:=by omega
        subst ej;have tM:¬((8:Nat):Int)<8:=by omega
        have HF:ae (dJ wr 5 a' 32 c' ((dc l).map bv)):=by rw[HBL.o];have:=hO.out.Rb (by omega);rw[su (by omega)] at this;exact this
        have HFb:ae (∀j,bL a'=some j→w.heap.size≤j):=hO.out.DU;have X5:ae (Below w.heap.size w wr):=hO.out.aY;clear hO
        go_wp2
        go_ret
        exact⟨a',c',rfl,X5.o,HF.o,HFb.o⟩
end Go.Proofs.YtkdpblbhcfhagaaGreatDoor
