import Derived.Test.YtkdpblbhcfhagaaGreatDoorQan
namespace Go.Proofs.YtkdpblbhcfhagaaGreatDoor
open Go.Proofs.Tryz
open _root_.Nat renaming le_refl → di, le_trans → kx, lt_of_lt_of_le → tV
open Go.RowKit.Below renaming refl → bZ, heap_alloc → jE
open Go.World renaming size_alloc → fx
open _root_.Array renaming getElem?_eq_some_iff → gD
open Go renaming undef → ag, World → aw, heap_alloc_new → eC
open _root_.List renaming replicate → cz, not_mem_nil → nj, mem_cons → mg, take_of_length_le → su
open Go.Exit renaming inBlock → nu
set_option maxHeartbeats 64000000
set_option linter.unusedVariables false
set_option maxRecDepth 100000
open Go.RowKit
theorem xY (g:Nat)(m:MS)(own once other seen:aO)(w:aw)(hS:Sd w g m own once other seen)(hT:TT w)(hg:E7 g):
  Calls prog 29 #[.pointer (some ⟨g,0,none⟩)] w λe w'=>∃v,e= .returned v∧w.grownBy w' (some g)∧Sd w' g (m.hash (bN once)) own once other seen∧w'.ownsRow w.heap.size 5 1 v 32 ((bN once).map bv):=by
 have HI:ae ((prog.info? 24).map (·.size)=some (once.map bv).length):=rC hS.k4.b;have HS:=aj hS;have HT:=aj hT;have HG:=aj hg;have oa:=hS.lt;have hlen:=eI once;obtain⟨R,RB⟩:=aW (bN once);have hR:ae (zA 32 (mX (fC (fc once)) 9)=R):=RB;rw[RB] at hlen⊢;clear hS hT hg RB
 go_enter func29,ntmps29
 go_wp2_with (first|refine cD rfl 24 _ rfl g 130 rfl (once.map bv) _ HS.o.Ll underlying24 rfl HI.o ?_|fail)
 refine(oz once w HS.o.k4.b HT.o.2).mono ?_;rintro e V ⟨rfl,hb⟩;rw[hR.out];have xA:=cJ V 24 R 32 hlen (by kernel_rfl) eY (by kernel_rfl);simp only[eY,cz] at xA;have hA:=dz.new V 24 R;have cM:Below V.heap.size V (V.alloc (.cells (R.map bv).toArray 24)):=eF;obtain⟨X,hX⟩:=aW (V.alloc (.cells (R.map bv).toArray 24));rw[hX] at xA hA cM;obtain⟨p,hp⟩:=aW (V.heap.size);have tN:w.heap.size≤p:=by rw[←hp];exact hb.size
 have rV:Below w.heap.size w X:=hb.trans (cM.mono hb.size);rw[hp] at xA hA;obtain⟨Y,hY⟩:=aW (X.drew);have cL:Below X.heap.size X Y:=by rw[←hY];exact gl
 have yV:=aj hY;have HA:=aj (hA.later cL);have Mc:=aj (rV.trans (cL.mono rV.size));clear hX hb cM hA rV cL hY hR
 go_wp2_with fail
 clear xA hp;refine ah (G:=bI g) (by kernel_rfl) (bI.refl g) (bI.trans g) (by kernel_rfl) [(0,true),(1,true),(2,true),(3,true),(4,false)] rfl (by kernel_rfl) ?_;intro KK cA;rw[yV.o]
 iterate 4 (refine aa rfl (by rfl) (v:=?_) ?_ ?_;rotate_left;(intro w' hw';clear hw';go_simp;with_reducible rfl);go_simp)
 refine aU (f:=52) (args:=#[.pointer (some ⟨g,0,none⟩),.slice (some ⟨p,0,none⟩) 32 32]) rfl (by rfl) (by go_simp) ?_;have Vu:=HS.o.later Mc.o;refine(kp g 60 (BE own once other seen++[]) m.C m.H m.K m.has m.n (some ⟨p,0,none⟩) 32 32 R Y Vu.mi (HA.o.nw 32 hlen) (λe=>by cases e) (by omega) (by omega) (by unfold maxLen;omega) (HT.o.1.later Mc.o) HG.o.1).mono ?_;rintro e w5 ⟨⟨v5,rfl⟩,jG,B7⟩;refine⟨_,rfl,jG,?_⟩;have LP:ae (w.grownBy w5 (some g)):=World.grownBy.trans (bI.below g Mc.o) jG;have LZ:ae (Sd w5 g (m.hash R) own once other seen):=iI.turned (m':=m.hash R) Vu B7;have nY:ae (bj w5 (some ⟨p,0,none⟩) 32 R):=gu (HA.o.nw 32 hlen) jG (λb o f e=>by cases e;omega);clear jG B7 Vu HA Mc yV;go_simp
 refine az cA ?_;clear cA
 go_wp2_with fail
 refine(yp (some ⟨p,0,none⟩) 32 32 R w5 nY.o (λe=>by cases e) (by omega)).mono ?_;rintro e w6 ⟨v6,rfl,lZ,qo⟩;have Cx:=aj (bQ qo LP.o.size);have HG6:ae (w.grownBy w6 (some g)):=World.grownBy.trans LP.o (bI.below g lZ);have HM6:=aj (LZ.o.later lZ);clear qo lZ
 go_wp2_with fail
 go_ret
 exact⟨_,rfl,HG6.o,HM6.o,Cx.o⟩
theorem AU (g:Nat)(m:MS)(own once other seen:aO)(c:bW)(lc cc:Nat)(b:aO)(w:aw)(hS:Sd w g m own once other seen)(hn:m.n≤1000)(hB:bj w c lc b)(kX:c=none→cc=0)(ig:lc≤800)(kZ:lc≤cc)(gB:cc≤maxLen)(hT:TT w)(hg:E7 g):
  Calls prog 31 #[.pointer (some ⟨g,0,none⟩),.slice c lc cc] w λe w'=>∃v,e= .returned v∧w.grownBy w' (some g)∧Sd w' g (m.d9 b) own once other seen∧w'.ownsRow w.heap.size 5 1 v (m.out b).length ((m.out b).map bv):=by
 have HS:=aj hS;have HT:=aj hT;have HG:=aj hg;have HB:=aj hB;have yT:sw m.has m.n=0:=by
  rcases D8 m.has m.n with h|⟨_,h⟩
  ·exact h
  ·unfold gf at h;omega
 clear hS hT hg hB
 go_enter func31,ntmps31
 go_wp2_with fail
 refine(D' g 60 (BE own once other seen++[]) m.C m.H m.K m.has m.n c lc cc b w HS.o.mi (by omega) HB.o kX (by omega) kZ gB HT.o.1 HG.o.1).mono ?_;rintro e w1 ⟨v1,rfl,oI,xu,cH⟩;rw[yT];have Cs:ae (Sd w1 g (m.d9 b) own once other seen):=iI.turned (m':=m.d9 b) HS.o xu;have mL:=aj oI;have f8:ae (w1.ownsRow w.heap.size 5 1 v1 (m.out b).length ((m.out b).map bv)):=cH;clear oI xu cH yT
 go_wp2_with fail
 refine(Er w1).mono ?_;rintro e w2 ⟨⟨v2,rfl⟩,rfl⟩
 go_wp2_with fail
 go_ret
 exact⟨_,rfl,mL.o,Cs.o,f8.o⟩
theorem AV (g:Nat)(m:MS)(own once other seen:aO)(c:bW)(lc cc:Nat)(b:aO)(w:aw)(hS:Sd w g m own once other seen)(hn:m.n≤1000)(hB:bj w c lc b)(kX:c=none→cc=0)(ig:lc≤1000)(kZ:lc≤cc)(gB:cc≤maxLen)(YL:∀x o f,c=some ⟨x,o,f⟩→x≠g)(hT:TT w)(hg:E7 g)(h0:m.err b=0):
  Calls prog 37 #[.pointer (some ⟨g,0,none⟩),.slice c lc cc] w λe w'=>∃v,e= .returned v∧w.grownBy w' (some g)∧Sd w' g (m.opened b) own once other seen∧w'.ownsRow w.heap.size 5 1 v (m.text b).length ((m.text b).map bv):=by
 have HS:=aj hS;have HT:=aj hT;have HG:=aj hg;have HB:=aj hB;have HCg:=aj YL;have yT:mZ m.K m.has m.n m.H b=0:=h0;clear hS hT hg hB YL h0
 go_enter func37,ntmps37
 go_wp2_with fail
 refine(wK g 60 (BE own once other seen++[]) m.C m.H m.K m.has m.n c lc cc b w HS.o.mi (by omega) HB.o kX (by omega) kZ gB HCg.o HT.o.1 HG.o.1).mono ?_;rintro e w1 ⟨v1,rfl,oI,xu,cH⟩;rw[yT];have Cs:ae (Sd w1 g (m.opened b) own once other seen):=iI.turned (m':=m.opened b) HS.o xu;have mL:=aj oI;have f8:ae (w1.ownsRow w.heap.size 5 1 v1 (m.text b).length ((m.text b).map bv)):=cH;clear oI xu cH yT
 go_wp2_with fail
 refine(Er w1).mono ?_;rintro e w2 ⟨⟨v2,rfl⟩,rfl⟩
 go_wp2_with fail
 go_ret
 exact⟨_,rfl,mL.o,Cs.o,f8.o⟩
theorem Es (g:Nat)(m:MS)(own once other seen:aO)(c:bW)(lc cc:Nat)(b:aO)(w:aw)(hS:Sd w g m own once other seen)(hn:m.n≤1000)(hB:bj w c lc b)(kX:c=none→cc=0)(ig:lc≤1000)(kZ:lc≤cc)(gB:cc≤maxLen)(YL:∀x o f,c=some ⟨x,o,f⟩→x≠g)(hT:TT w)(hg:E7 g)(h0:m.err b≠0):
  Calls prog 37 #[.pointer (some ⟨g,0,none⟩),.slice c lc cc] w λe w'=>e=pan (m.err b)∧w.grownBy w' (some g):=by
 have HS:=aj hS;have HT:=aj hT;have HG:=aj hg;have HB:=aj hB;have HCg:=aj YL;obtain⟨er,qc⟩:=aW (m.err b);have yT:mZ m.K m.has m.n m.H b=er:=qc;rw[qc] at h0⊢;clear hS hT hg hB YL qc
 go_enter func37,ntmps37
 go_wp2_with fail
 refine(wK g 60 (BE own once other seen++[]) m.C m.H m.K m.has m.n c lc cc b w HS.o.mi (by omega) HB.o kX (by omega) kZ gB HCg.o HT.o.1 HG.o.1).mono ?_;rintro e w1 ⟨v1,rfl,oI,xu,cH⟩;rw[yT];have mL:=aj oI;clear oI xu cH yT
 go_wp2_with fail
 refine(Lo er h0 w1).mono ?_;rintro e w2 ⟨rfl,rfl⟩
 go_wp2_with fail
 first|exact⟨rfl,mL.o⟩|exact⟨rfl,rfl,mL.o⟩
theorem zX (g:Nat)(c:bW)(lc cc least:Nat)(w:aw)(ig:lc<least)(Si:least≤100):
  Calls prog 36 #[.pointer (some ⟨g,0,none⟩),.slice c lc cc,.int .i64 (least:Int)] w λe w'=>e=pan 2∧w'=w:=by
 have hi:(lc:Int)<(least:Int):=by omega
 go_enter func36,ntmps36
 go_wp2
 first|exact⟨rfl,rfl⟩|exact⟨rfl,rfl,rfl⟩
theorem xZ (g:Nat)(m:MS)(own once other seen:aO)(cb co lc cc least:Nat)(b:aO)(w:aw)(hS:Sd w g m own once other seen)(hB:bj w (some ⟨cb,co,none⟩) lc b)(ig:least≤lc)(Si:32<least)(kZ:lc≤cc)(gB:cc≤maxLen)(YL:cb≠g)(hT:TT w)(hg:E7 g):
  Calls prog 36 #[.pointer (some ⟨g,0,none⟩),.slice (some ⟨cb,co,none⟩) lc cc,.int .i64 (least:Int)] w λe w'=>e= .returned (.slice (some ⟨cb,co+32,none⟩) (lc-32) (cc-32))∧w.grownBy w' (some g)∧Sd w' g (m.hash (b.take 32)) own once other (b.take 32):=by
 have kW:=hB.1;have Vv:(b.take 32).length=32:=by rw[List.length_take];omega
 obtain⟨R,hR⟩:=aW (b.take 32);have hBR:bj w (some ⟨cb,co,none⟩) 32 R:=by rw[←hR];exact hB.cut (by omega)
 rw[hR] at Vv⊢;obtain⟨W,xA,hSW,hGW⟩:=hS.Zh R Vv;have oa:=hS.lt;obtain⟨Y,hY⟩:=aW (W.drew);have cL:Below W.heap.size W Y:=by rw[←hY];exact gl
 have yV:=aj hY;have HSY:=aj (hSW.later cL);have WU:ae (w.grownBy Y (some g)):=World.grownBy.trans hGW (bI.below g cL);have HBR:=aj hBR;have HT:=aj hT;have HG:=aj hg;have hi:¬(lc:Int)<(least:Int):=by omega
 have m7:(cc:Int)≤9223372036854775807:=by unfold maxLen at gB;omega
 have hat:(Instr.arrayAt 24 (.slice (some ⟨cb,co,none⟩) 32 cc)).run prog w= .ok (.pointer (some ⟨cb,co,none⟩)) w:=by simp[Instr.arrayAt,run_underlying underlying24]
 have e1:32≤lc:=by omega
 have e2:32≤cc:=by omega
 clear hS hSW hGW hB hBR hT hg cL hY hR
 go_enter func36,ntmps36
 go_wp2_with (first|refine eQ rfl 24 _ rfl cb co 32 32 5 R rfl HBR.o underlying24 (by kernel_rfl) ?_|fail)
 clear xA hat;refine ah (G:=bI g) (by kernel_rfl) (bI.refl g) (bI.trans g) (by kernel_rfl) [(0,true),(1,true),(2,true),(3,true),(4,true),(5,true),(6,true),(7,false)] rfl (by kernel_rfl) ?_;intro KK cA;rw[yV.o]
 iterate 7 (refine aa rfl (by rfl) (v:=?_) ?_ ?_;rotate_left;(intro w' hw';clear hw';go_simp;with_reducible rfl);go_simp)
 refine aU (f:=52) (args:=#[.pointer (some ⟨g,0,none⟩),.slice (some ⟨g,194,none⟩) 32 32]) rfl (by rfl) (by go_simp) ?_;refine(kp g 60 (BE own once other R++[]) m.C m.H m.K m.has m.n (some ⟨g,194,none⟩) 32 32 R Y HSY.o.mi (pM Vv HSY.o.Lm) (λe=>by cases e) (by omega) (by omega) (by unfold maxLen;omega) (HT.o.1.but WU.o HG.o.1) HG.o.1).mono ?_;rintro e w5 ⟨⟨v5,rfl⟩,jG,B7⟩;refine⟨_,rfl,jG,?_⟩;have LP:ae (w.grownBy w5 (some g)):=World.grownBy.trans WU.o jG;have LZ:ae (Sd w5 g (m.hash R) own once other R):=iI.turned (m':=m.hash R) HSY.o B7;clear jG B7 yV;go_simp
 refine az cA ?_;clear cA
 go_wp2_with fail
 go_ret
 have c1:((lc:Int)-32)=((lc-32:Nat):Int):=by omega
 have c2:((cc:Int)-32)=((cc-32:Nat):Int):=by omega
 exact⟨rfl,LP.o,LZ.o⟩
theorem zY (place:Nat→Option (Nat×Nat))(A old B vs:bK)(i off:Nat)(rest:List (Nat×Value))(hp:place i=some (off,vs.length))(ha:A.length=off)(hl:old.length=vs.length):
  Instr.fill place (A++(old++B)).toArray ((i,.agg vs.toArray)::rest)=Instr.fill place (A++(vs++B)).toArray rest:=by
 rw[jB place _ i off vs rest hp (by simp;omega)];have e:(A++(old++B)).toArray.toList=A++(old++B):=rfl;have h1:A.length=off:=ha;have h2:(A++old).length=off+vs.length:=by simp[ha,hl]
 rw[e,List.take_left' h1,←List.append_assoc A old B,List.drop_left' h2,List.append_assoc]
def zk:aO:=cz 32 0
def ms0:MS:=⟨zk,zk,zk,false,0⟩
def GB:bK:=SV ms0 zk zk zk zk
theorem j8:GB.length=226:=by kernel_rfl
theorem Zi:∀parts,prog.built 60 parts=Instr.fill (#[(0,98),(98,32),(130,32),(162,32),(194,32)][·]?) GB.toArray parts:=λparts=>by kernel_rfl
theorem Zj:∀parts,prog.built 64 parts=Instr.fill (#[(0,226),(226,1)][·]?) (GB++[Value.int .i64 0]).toArray parts:=λparts=>by kernel_rfl
theorem RD (C H K:aO)(has:Bool)(n:Nat)(own once:aO)(hC:C.length=32)(hH:H.length=32)(hK:K.length=32)(ho:own.length=32)(hn:once.length=32):
  prog.built 60 [(0,.agg (sN C H K has n).toArray),(1,.agg (own.map bv).toArray),(2,.agg (once.map bv).toArray)]=some (SV ⟨C,H,K,has,n⟩ own once zk zk).toArray:=by
 have hz:(zk.map bv).length=32:=rfl;obtain⟨Z,hZ⟩:=aW (zk.map bv);obtain⟨M0,Kf⟩:∃M,sN zk zk zk false 0=M:=⟨_,rfl⟩;have ana:M0.length=98:=by rw[←Kf];exact mr _ _ _ _ _ rfl rfl rfl
 have vh:=mr C H K has n hC hH hK;rw[Zi,GB];simp only[SV,BE,ms0,hZ,Kf];rw[hZ] at hz;obtain⟨M,hM⟩:=aW (sN C H K has n);rw[hM] at vh⊢;have e0:=zY (#[(0,98),(98,32),(130,32),(162,32),(194,32)][·]?) [] M0 (Z++(Z++(Z++Z))) M 0 0 [(1,.agg (own.map bv).toArray),(2,.agg (once.map bv).toArray)] (by rw[vh];rfl) rfl (by rw[ana,vh]);simp only[List.nil_append] at e0;rw[e0,zY _ M Z (Z++(Z++Z)) (own.map bv) 1 98 _ (by rw[List.length_map,ho];rfl) vh (by rw[hz,List.length_map,ho])];have e2:=zY (#[(0,98),(98,32),(130,32),(162,32),(194,32)][·]?) (M++own.map bv) Z (Z++Z) (once.map bv) 2 130 [] (by rw[List.length_map,hn];rfl) (by rw[List.length_append,vh,List.length_map,ho]) (by rw[hz,List.length_map,hn]);simp only[List.append_assoc] at e2;rw[e2];rfl
theorem Lp (vs:bK)(nx:Int)(hl:vs.length=226):prog.built 64 [(0,.agg vs.toArray),(1,.int .i64 nx)]=some (vs++[Value.int .i64 nx]).toArray:=by have hz:=j8;rw[Zj];have e0:=zY (#[(0,226),(226,1)][·]?) [] GB [Value.int .i64 0] vs 0 0 [(1,.int .i64 nx)] (by rw[hl];rfl) rfl (by rw[hz,hl]);simp only[List.nil_append] at e0;rw[e0];simp[Instr.fill,Value.cells,hl,List.set_append_right]
theorem Vx {ev:Operand→Value}{o:Oper}{w:aw}(C H K:aO)(has:Bool)(n:Nat)(own once:aO)(hC:C.length=32)(hH:H.length=32)(hK:K.length=32)(xV:own.length=32)(hn:once.length=32)(x y z:Operand)(ho:o.op= .build 60 #[(0,x),(1,y),(2,z)])
  (hx:ev x= .agg (sN C H K has n).toArray) (hy:ev y= .agg (own.map bv).toArray) (hz:ev z= .agg (once.map bv).toArray):(execOp ev o).run prog w= .ok (.value (.agg (SV ⟨C,H,K,has,n⟩ own once zk zk).toArray)) w:=by
 have hb:=RD C H K has n own once hC hH hK xV hn;unfold execOp;simp only[ho,Sem.run_bind,run_build (P:=prog) w 60 (#[(0,x),(1,y),(2,z)].map λy=>(y.fst,ev y.snd)) (SV ⟨C,H,K,has,n⟩ own once zk zk).toArray (by simp only[List.map_toArray,List.map_cons,List.map_nil,hx,hy,hz];exact hb),Result.andThen_ok,Sem.run_pure]
theorem Zl {ev:Operand→Value}{o:Oper}{w:aw}(vs:bK)(nx:Int)(hl:vs.length=226)(x y:Operand)(ho:o.op= .build 64 #[(0,x),(1,y)])
  (hx:ev x= .agg vs.toArray) (hy:ev y= .int .i64 nx):(execOp ev o).run prog w= .ok (.value (.agg (vs++[Value.int .i64 nx]).toArray)) w:=by
 have hb:=Lp vs nx hl;unfold execOp;simp only[ho,Sem.run_bind,run_build (P:=prog) w 64 (#[(0,x),(1,y)].map λy=>(y.fst,ev y.snd)) (vs++[Value.int .i64 nx]).toArray (by simp only[List.map_toArray,List.map_cons,List.map_nil,hx,hy];exact hb),Result.andThen_ok,Sem.run_pure]
theorem RE {ops:Array Oper}{rest:List Oper}{o:Oper}{a:Act}{w:aw}{Q:Exit→Act→aw→Prop}(vs:bK)(nx:Int)(hl:vs.length=226)(hg:o.guard=none)(x y:Operand)(ho:o.op= .build 64 #[(0,x),(1,y)])
  (hx:a.eval x= .agg vs.toArray) (hy:a.eval y= .int .i64 nx) (h:wpList prog ops Q rest (a.put o.dst (.agg (vs++[Value.int .i64 nx]).toArray)) w):wpList prog ops Q (o::rest) a w:=
 wpList_buildTo hg _ _ ho _ rfl _ (by simp[hx,hy,Lp vs nx hl]) h
def aiK (ops:Array Oper)(m sz:Nat)(o:Oper)(j p:Nat):Bool:=decide (j<m)&&(o.after.any λe=>Region.binds .any e&&e.on==j)&&je ops j==some p&&decide (p<sz)
theorem B4.g {ops:Array Oper}{m:Nat}{v:Nat→Value}{d:Nat→Bool}{a A:Act}(h:B4 ops m v d a A){o:Oper}(hd:∀e∈o.after,Region.binds .any e=true→d e.on=true){x:Value}(j p:Nat)(hb:aiK ops m a.tmps.size o j p=true)(hv:j<m→d j=true→v j=x):A.eval (.tmp p)=x:=by unfold aiK at hb;simp only[Bool.and_eq_true] at hb;obtain⟨⟨⟨h1,h2⟩,h3⟩,h4⟩:=hb;exact(h.got hd j p (dL h1) h2 (by simpa using h3) (dL h4)).trans (hv (dL h1) (dA hd j h2))
theorem opv {P:Program}{ops:Array Oper}{Q:Exit→Act→aw→Prop}{A:Act}{o:Oper}{W:aw}{S:Value→aw→Prop}(x:Value)(hw:Region.wanted o (yielded ops A.tmps)=true)(hr:(execOp A.eval o).run P W= .ok (.value x) W)(hs:S x W):Region.wanted o (yielded ops A.tmps)=true∧o.wp P A W (λa' W'=>∃x,a'=A.put o.dst x∧S x W'∧Below W.heap.size W W') Q:=
 ⟨hw,av hr ⟨_,rfl,hs,bZ _ _⟩⟩
structure Sw (w W:aw)(own once Al:aO):Prop where
 a:W.heap[w.heap.size]?=some (.cells (own.map bv).toArray 24 (0,0))
 b:W.heap[w.heap.size+1]?=some (.cells (once.map bv).toArray 24 (0,0))
 c:W.heap[w.heap.size+1+1]?=some (.cells (Al.map bv).toArray 24 (0,0))
 d:W.heap[w.heap.size+1+1+1]?=some (.cells GB.toArray 60 (0,0))
 aY:Below w.heap.size w W
 sz:w.heap.size+4≤W.heap.size
theorem Sw.new (w:aw)(own once Al:aO):Sw w ((((w.alloc (.cells (own.map bv).toArray 24)).alloc (.cells (once.map bv).toArray 24)).alloc (.cells (Al.map bv).toArray 24)).alloc (.cells GB.toArray 60)) own once Al:=by have h:=((((Vw.none w).alloc 24 (own.map bv)).alloc 24 (once.map bv)).alloc 24 (Al.map bv)).alloc 60 GB;simp only[fx] at h;exact⟨h.cell (w.heap.size,24,own.map bv) (by simp),h.cell (w.heap.size+1,24,once.map bv) (by simp),h.cell (w.heap.size+1+1,24,Al.map bv) (by simp),h.cell (w.heap.size+1+1+1,60,GB) (by simp),h.aY,by simp⟩
theorem Sw.later {w W W':aw}{own once Al:aO}(x:Sw w W own once Al)(hb:Below W.heap.size W W'):Sw w W' own once Al:=
 ⟨eS x.a hb,eS x.b hb,eS x.c hb,eS x.d hb,x.aY.trans (hb.mono x.aY.size),kx x.sz hb.size⟩
theorem Sw.but {w W W':aw}{own once Al:aO}{g:Nat}(x:Sw w W own once Al)(hG:W.grownBy W' (some g))(hg:w.heap.size+4≤g):Sw w W' own once Al:=by
 have hz:=x.sz;refine⟨?_,?_,?_,?_,dI x.aY hG (by omega),kx x.sz hG.size⟩
 ·rw[hG.block _ (by omega) (λe=>by cases e;omega)];exact x.a
 ·rw[hG.block _ (by omega) (λe=>by cases e;omega)];exact x.b
 ·rw[hG.block _ (by omega) (λe=>by cases e;omega)];exact x.c
 ·rw[hG.block _ (by omega) (λe=>by cases e;omega)];exact x.d
theorem zZ (pa:bW)(pl pc:Nat)(gj own once Al:aO)(w:aw)(ho:own.length=32)(hn:once.length=32)(ha:Al.length=32)(hP:bj w pa pl gj)(LQ:pa=none→pc=0)(tN:pl≤1000)(TL:pl≤pc)(hpm:pc≤maxLen)(hT:TT w):
  Calls prog 23 #[.slice pa pl pc,.agg (own.map bv).toArray,.agg (once.map bv).toArray,.agg (Al.map bv).toArray] w λe w'=>e= .returned (.agg (SV (((MS.start aZ).hash gj).hash Al) own once zk zk).toArray)∧Below w.heap.size w w':=by
 have hI:ae (∀l:aO,l.length=32→(prog.info? 24).map (·.size)=some (l.map bv).toArray.size):=λl hl=>wR hl;have E4:ae (Sw w ((((w.alloc (.cells (own.map bv).toArray 24)).alloc (.cells (once.map bv).toArray 24)).alloc (.cells (Al.map bv).toArray 24)).alloc (.cells GB.toArray 60)) own once Al):=Sw.new w own once Al;have HT:=aj hT;have HP:=aj hP;have PD:ae ((dU aZ).length=32):=nB _;clear hT hP
 go_enter func23,ntmps23
 refine wp_seq (wp_cut (λa W=>a={tmps:=#[.slice pa pl pc,.agg (own.map bv).toArray,.agg (once.map bv).toArray,.agg (Al.map bv).toArray,ag,.pointer (some ⟨w.heap.size,0,none⟩),.pointer (some ⟨w.heap.size+1,0,none⟩),.pointer (some ⟨w.heap.size+1+1,0,none⟩),.pointer (some ⟨w.heap.size+1+1+1,0,none⟩),ag,ag,ag,ag,ag,ag,ag,ag,ag,ag,ag,ag,ag,ag],defers:=[]}∧ae (Sw w W own once Al)) ?_ ?_)
 ·go_wp2
  all_goals first|exact E4|exact⟨rfl,E4⟩|exact⟨rfl,rfl,E4⟩
 ·rintro a W0 ⟨rfl,HV⟩;clear E4;simp only[Exit.then];refine wp_seq (wp_cut (λa W=>∃g,∃v:Nat→Value,a={tmps:=#[.slice pa pl pc,.agg (own.map bv).toArray,.agg (once.map bv).toArray,.agg (Al.map bv).toArray,ag,.pointer (some ⟨w.heap.size,0,none⟩),.pointer (some ⟨w.heap.size+1,0,none⟩),.pointer (some ⟨w.heap.size+1+1,0,none⟩),.pointer (some ⟨w.heap.size+1+1+1,0,none⟩),.pointer (some ⟨g,0,none⟩),v 0,v 1,v 2,v 3,v 4,v 5,ag,ag,ag,ag,ag,ag,ag],defers:=[]}∧ae (w.heap.size+4≤g)∧ae (Sw w W own once Al)∧ae (iI W g 60 [] (MS.start aZ) own once zk zk)) ?_ ?_)
  ·refine fo 7 (by decide) (by kernel_rfl) (by kernel_rfl) (by kernel_rfl) (by kernel_rfl)
    (λj x W'=>match j with
     |0=>∃g,x= .pointer (some ⟨g,0,none⟩)∧sD W' g (dU aZ) (dU aZ) zk false 0
     |1=>∃g,x= .pointer (some ⟨g,0,none⟩)∧sD W' g (dU aZ) (dU aZ) zk false 0
     |2=>x= .agg (sN (dU aZ) (dU aZ) zk false 0).toArray
     |3=>x= .agg (own.map bv).toArray
     |4=>x= .agg (once.map bv).toArray
     |5=>x= .agg (SV ⟨dU aZ,dU aZ,zk,false,0⟩ own once zk zk).toArray
     |_=>∃g,x= .pointer (some ⟨g,0,none⟩)∧w.heap.size+4≤g∧W'.heap[g]?=some (.cells GB.toArray 60 (0,0))) ?_ ?_ ?_
   ·intro j x W W' h hb
    match j with
    |0=>obtain⟨g,h1,h2⟩:=h;exact⟨g,h1,h2.later hb⟩
    |1=>obtain⟨g,h1,h2⟩:=h;exact⟨g,h1,h2.later hb⟩
    |2|3|4|5=>exact h
    |n+6=>obtain⟨g,h1,h2,h3⟩:=h;exact⟨g,h1,h2,eS h3 hb⟩
   ·intro d v W' i o A hi Bs hv aX hA hb;have fB:=(HV.o.later gl).later hb;have gw:i=0∨i=1∨i=2∨i=3∨i=4∨i=5∨i=6:=by omega
    rcases gw with rfl|rfl|rfl|rfl|rfl|rfl|rfl
    ·cases Bs
     refine⟨rfl,bf (f:=51) (args:=#[.string (S aZ)]) (by go_simp;rfl) ((UY aZ W' (by decide) (HT.o.1.later fB.aY)).mono ?_)⟩;rintro e w2 ⟨g,rfl,_,cM,wz⟩;exact⟨_,rfl,_,rfl,⟨g,rfl,wz⟩,cM⟩
    ·cases Bs
     obtain⟨g,h0,hM⟩:=hv 0 (by decide) (dA aX 0 (by kernel_rfl));replace h0:=dp ((hA.got aX 0 10 (by decide) (by kernel_rfl) rfl (dL (by kernel_rfl))).trans h0);exact⟨rfl,av (v:=.pointer (some ⟨g,0,none⟩)) (w':=W') (by go_simp) ⟨_,rfl,⟨g,rfl,hM⟩,bZ _ _⟩⟩
    ·cases Bs
     obtain⟨g,h0,hM⟩:=hv 1 (by decide) (dA aX 1 (by kernel_rfl));replace h0:=(hA.got aX 1 11 (by decide) (by kernel_rfl) rfl (dL (by kernel_rfl))).trans h0;exact opv (.agg (sN (dU aZ) (dU aZ) zk false 0).toArray) rfl (ar 58 _ rfl g h0 58 _ (0,0) _ hM.row underlying58 rfl (XM PD.o PD.o rfl)) rfl
    ·cases Bs
     have h0:A.eval (.tmp 5)= .pointer (some ⟨w.heap.size,0,none⟩):=(hA.keep 5 (by kernel_rfl)).trans rfl;exact opv (.agg (own.map bv).toArray) rfl (ar 24 _ rfl w.heap.size h0 24 _ (0,0) _ fB.a underlying24 rfl (hI.out own ho)) rfl
    ·cases Bs
     have h0:A.eval (.tmp 6)= .pointer (some ⟨w.heap.size+1,0,none⟩):=(hA.keep 6 (by kernel_rfl)).trans rfl;exact opv (.agg (once.map bv).toArray) rfl (ar 24 _ rfl (w.heap.size+1) h0 24 _ (0,0) _ fB.b underlying24 rfl (hI.out once hn)) rfl
    ·cases Bs
     have h2:=hA.g aX 2 12 (by kernel_rfl) (hv 2);have h3:=hA.g aX 3 13 (by kernel_rfl) (hv 3);have h4:=hA.g aX 4 14 (by kernel_rfl) (hv 4);exact opv (.agg (SV ⟨dU aZ,dU aZ,zk,false,0⟩ own once zk zk).toArray) rfl (Vx _ _ _ _ _ own once PD.o PD.o rfl ho hn (.tmp 12) (.tmp 13) (.tmp 14) rfl h2 h3 h4) rfl
    ·cases Bs
     have eZ:Below W'.heap.size W' (W'.alloc (.cells GB.toArray 60)):=eF;exact⟨rfl,av (v:=.pointer (some ⟨W'.heap.size,0,none⟩)) (w':=W'.alloc (.cells GB.toArray 60)) (by kernel_rfl) ⟨_,rfl,⟨_,rfl,fB.sz,eC W' _⟩,eZ⟩⟩
   ·intro v W' hv hb;obtain⟨g,e6,hg,hz⟩:=hv 6 (by decide);have e5:=hv 5 (by decide);have fB:=(HV.o.later gl).later hb;have hl:(SV ⟨dU aZ,dU aZ,zk,false,0⟩ own once zk zk).length=226:=by rw[SV,List.length_append,mr _ _ _ _ _ PD.o PD.o rfl,qX ⟨ho,hn,rfl,rfl⟩]
    have xA:=aL W' g _ _ (SV ⟨dU aZ,dU aZ,zk,false,0⟩ own once zk zk) hz (by rw[hl];exact j8) (wQ _ _ _ _ _);have bh:=setRow_heap W' g _ (SV ⟨dU aZ,dU aZ,zk,false,0⟩ own once zk zk).toArray _ _ hz;have hG:W'.grownBy (W'.setRow g (SV ⟨dU aZ,dU aZ,zk,false,0⟩ own once zk zk).toArray) (some g):=bI.setRow W' g _;obtain⟨X,hX⟩:=aW (W'.setRow g (SV ⟨dU aZ,dU aZ,zk,false,0⟩ own once zk zk).toArray);rw[hX] at xA bh hG;have yl:=aj (fB.but hG hg);have oE:ae (iI X g 60 [] (MS.start aZ) own once zk zk):=iI.of (by rw[List.append_nil];exact bh) PD.o PD.o rfl ⟨ho,hn,rfl,rfl⟩;obtain⟨V,hV⟩:=aW (SV ⟨dU aZ,dU aZ,zk,false,0⟩ own once zk zk);rw[hV] at xA e5 hl;have HGg:=aj hg;clear bh hG hX hV hz fB hg;refine zJ (a':={tmps:=#[.slice pa pl pc,.agg (own.map bv).toArray,.agg (once.map bv).toArray,.agg (Al.map bv).toArray,ag,.pointer (some ⟨w.heap.size,0,none⟩),.pointer (some ⟨w.heap.size+1,0,none⟩),.pointer (some ⟨w.heap.size+1+1,0,none⟩),.pointer (some ⟨w.heap.size+1+1+1,0,none⟩),v 6,v 0,v 1,v 2,v 3,v 4,v 5,ag,ag,ag,ag,ag,ag,ag],defers:=[]}) rfl (by kernel_rfl) ?_;rw[e5,e6]
    go_wp2
    refine⟨g,⟨rfl,(λk=>match k with|5=> .agg V.toArray|k=>v k),rfl,rfl,rfl,rfl,rfl,rfl⟩,?_⟩
    first|exact⟨HGg,yl,oE⟩|exact⟨HGg,oE⟩|exact⟨yl,oE⟩|exact oE
  ·rintro a W1 ⟨g,v,rfl,HGg,yR,gg⟩;simp only[Exit.then];have HGo:ae (E7 g):=HT.o.new (kx (by omega) HGg.o);clear HV
   go_wp2_with fail
   refine(kp g 60 (BE own once zk zk++[]) _ _ _ _ _ pa pl pc gj W1 gg.o.mi (HP.o.later yR.o.aY) LQ (by omega) TL hpm (HT.o.1.later yR.o.aY) HGo.o.1).mono ?_;rintro e w2 ⟨⟨v2,rfl⟩,fH,wz⟩;have oE:ae (iI w2 g 60 [] ((MS.start aZ).hash gj) own once zk zk):=iI.turned (m':=(MS.start aZ).hash gj) gg.o wz;have yl:=aj (yR.o.but fH HGg.o);clear fH wz gg yR
   go_wp2_with fail
   refine(kp g 60 (BE own once zk zk++[]) _ _ _ _ _ (some ⟨w.heap.size+1+1,0,none⟩) 32 32 Al w2 oE.o.mi (xf 32 ha yl.o.c) (λe=>by cases e) (by omega) (by omega) (by unfold maxLen;omega) (HT.o.1.later yl.o.aY) HGo.o.1).mono ?_;rintro e w3 ⟨⟨v3,rfl⟩,fP,vo⟩;have Fs:iI w3 g 60 [] (((MS.start aZ).hash gj).hash Al) own once zk zk:=iI.turned (m':=((MS.start aZ).hash gj).hash Al) oE.o vo;have I4:=yl.o.but fP HGg.o;obtain⟨V,hV⟩:=aW (SV (((MS.start aZ).hash gj).hash Al) own once zk zk);have hl:V.length=226:=by rw[←hV];exact Fs.rB
   have h1:∀v∈V,v.oneCell'=true:=by rw[←hV];exact wQ _ _ _ _ _
   have aaP:w3.heap[g]?=some (.cells V.toArray 60 (0,0)):=by rw[←hV];simpa using Fs.row
   have Jb:(prog.info? 60).map (·.size)=some V.toArray.size:=by
    have:=oJ Fs.rB;rw[hV] at this
    simpa using this
   have xA:=aL w3 (w.heap.size+1+1+1) _ _ V I4.d (by rw[hl];exact j8) h1;have bh:=setRow_heap w3 (w.heap.size+1+1+1) _ V.toArray _ _ I4.d;have bR:=aj (below_setRow I4.aY (show w.heap.size≤w.heap.size+1+1+1 by omega) V.toArray);obtain⟨X,hX⟩:=aW (w3.setRow (w.heap.size+1+1+1) V.toArray);rw[hX] at xA bh bR;have cY:=aj bh;have Lq:=aj aaP;have Fi:=aj Jb;have WV:=aj hV;clear fP vo Fs I4 h1 aaP Jb bh hX oE yl hV
   go_wp2_with (first|refine wpList_load_row rfl 60 _ rfl g rfl 60 V.toArray (0,0) _ Lq.o underlying60 rfl Fi.o ?_|fail)
   (try simp only[nu,Exit.then])
   refine bodyPost_ret (results_cell_row rfl _ _ (w.heap.size+1+1+1) 60 _ (0,0) _ rfl cY.o underlying60 rfl Fi.o) rfl ?_;exact⟨by rw[WV.o],bR.o⟩
theorem jz {ops:Array Oper}{rest:List Oper}{o:Oper}{a:Act}{w:aw}{Q:Exit→Act→aw→Prop}(hg:Region.wanted o (yielded ops a.tmps)=true)(ho:o.op= .alloc 60)
  (h:wpList prog ops Q rest (a.put o.dst (.pointer (some ⟨w.heap.size,0,none⟩))) (w.alloc (.cells GB.toArray 60))):wpList prog ops Q (o::rest) a w:=by
 unfold wpList;rw[if_pos hg];refine .inl ?_;have hr:(execOp a.eval o).run prog w= .ok (.value (.pointer (some ⟨w.heap.size,0,none⟩))) (w.alloc (.cells GB.toArray 60)):=by unfold execOp;simp only[ho];kernel_rfl
 unfold Oper.wp;rw[hr];exact h
def NS.code (x:NS):Nat:=if x.st=9 then 0 else(if x.bP=true then 1 else 4)+x.st
structure HaS (w:aw)(g:Nat)(x:NS)(seen:aO):Prop where
 sd:iI w g 64 [.int .i64 (x.code:Int)] x.M x.own x.once x.S seen
 st:x.st=0∨x.st=1∨x.st=2∨x.st=9
 se:x.bP=false→x.st=1→seen=x.R
 n:x.M.n≤100
def ju (w:aw)(g:Nat)(x:NS):Prop:=∃seen,HaS w g x seen
theorem ju.lt {w:aw}{g:Nat}{x:NS}(h:ju w g x):g<w.heap.size:=by obtain⟨s,h1⟩:=h;exact h1.sd.lt
theorem ju.later {w w':aw}{g:Nat}{x:NS}(h:ju w g x)(hb:Below w.heap.size w w'):ju w' g x:=by obtain⟨s,h1,h2,h3,h4⟩:=h;exact⟨s,h1.later hb,h2,h3,h4⟩
theorem ju.but {w w':aw}{g g':Nat}{x:NS}(h:ju w g x)(hG:w.grownBy w' (some g'))(eL:g≠g'):ju w' g x:=by obtain⟨s,h1,h2,h3,h4⟩:=h;exact⟨s,h1.but hG eL,h2,h3,h4⟩
theorem Et (pa:bW)(pl pc:Nat)(gj own other once:aO)(w:aw)(ho:own.length=32)(hn:once.length=32)(ha:other.length=32)(hP:bj w pa pl gj)(LQ:pa=none→pc=0)(tN:pl≤1000)(TL:pl≤pc)(hpm:pc≤maxLen)(hT:TT w):
  Calls prog 6 #[.slice pa pl pc,.agg (own.map bv).toArray,.agg (other.map bv).toArray,.agg (once.map bv).toArray] w λe w'=>∃g,e= .returned (.pointer (some ⟨g,0,none⟩))∧w.heap.size≤g∧Below w.heap.size w w'∧ju w' g (NS.jn aZ gj own other once):=by
 have hI:ae (∀l:aO,l.length=32→(prog.info? 24).map (·.size)=some (l.map bv).toArray.size):=λl hl=>wR hl;have gC:ae (Vw w (((w.alloc (.cells (own.map bv).toArray 24)).alloc (.cells (other.map bv).toArray 24)).alloc (.cells (once.map bv).toArray 24)) [(w.heap.size,24,own.map bv),(w.heap.size+1,24,other.map bv),(w.heap.size+1+1,24,once.map bv)]):=by have h:=(((Vw.none w).alloc 24 (own.map bv)).alloc 24 (other.map bv)).alloc 24 (once.map bv);simp only[fx] at h;exact h
 have HT:=aj hT;have HP:=aj hP;obtain⟨m,hm⟩:=aW (((MS.start aZ).hash gj).hash other);have HM:ae ((NS.jn aZ gj own other once).M=m):=hm;have jc:ae (m.C.length=32∧m.H.length=32∧m.K.length=32∧m.n=0):=by rw[←hm];exact⟨nB aZ,we _ _,rfl,rfl⟩
 have Vy:=aj hm;clear hT hP hm
 go_enter func6,ntmps6
 refine wp_seq (wp_cut (λa W=>a={tmps:=#[.slice pa pl pc,.agg (own.map bv).toArray,.agg (other.map bv).toArray,.agg (once.map bv).toArray,ag,.pointer (some ⟨w.heap.size,0,none⟩),.pointer (some ⟨w.heap.size+1,0,none⟩),.pointer (some ⟨w.heap.size+1+1,0,none⟩),.pointer none,ag,ag,ag,ag,ag,ag,ag,ag,ag,ag,ag],defers:=[]}∧ae (Vw w W [(w.heap.size,24,own.map bv),(w.heap.size+1,24,other.map bv),(w.heap.size+1+1,24,once.map bv)])) ?_ ?_)
 ·go_wp2
  all_goals first|exact gC|exact⟨rfl,gC⟩|exact⟨rfl,rfl,gC⟩
 ·rintro a W0 ⟨rfl,HV⟩;clear gC;simp only[Exit.then]
  go_wp2_with (first|(refine wpList_load_row rfl 24 (.tmp 5) rfl w.heap.size rfl 24 (own.map bv).toArray (0,0) _ ?_ underlying24 rfl (hI.out own ho) ?_;exact HV.o.cell (w.heap.size,24,own.map bv) (by simp))|(refine wpList_load_row rfl 24 (.tmp 7) rfl (w.heap.size+1+1) rfl 24 (once.map bv).toArray (0,0) _ ?_ underlying24 rfl (hI.out once hn) ?_;exact HV.o.cell (w.heap.size+1+1,24,once.map bv) (by simp))|(refine wpList_load_row rfl 24 (.tmp 6) rfl (w.heap.size+1) rfl 24 (other.map bv).toArray (0,0) _ ?_ underlying24 rfl (hI.out other ha) ?_;exact HV.o.cell (w.heap.size+1,24,other.map bv) (by simp))|fail)
  refine(zZ pa pl pc gj own once other W0 ho hn ha (HP.o.later HV.o.aY) LQ tN TL hpm (HT.o.later HV.o.aY)).mono ?_;rintro e V ⟨rfl,hb⟩;rw[Vy.o];have UE:(SV m own once zk zk).length=226:=by rw[SV,List.length_append,mr _ _ _ _ _ jc.out.1 jc.out.2.1 jc.out.2.2.1,qX ⟨ho,hn,rfl,rfl⟩]
  have fW:=wQ m own once zk zk;obtain⟨L,hL⟩:=aW (SV m own once zk zk);rw[hL] at UE fW⊢;have xA:=fi V 60 L 226 UE (by kernel_rfl) fW GB.toArray (by simpa using j8);have hVV:=(HV.o.later hb).alloc 60 L;obtain⟨p,hp⟩:=aW (V.heap.size);obtain⟨X,hX⟩:=aW (V.alloc (.cells L.toArray 60));rw[hX,hp] at xA hVV;have HX:=aj hVV;have tO:iI X p 60 [] m own once zk zk:=iI.of (by rw[List.append_nil,hL];exact hVV.cell (p,60,L) (by simp)) jc.out.1 jc.out.2.1 jc.out.2.2.1 ⟨ho,hn,rfl,rfl⟩;obtain⟨Y,eO,Vu,hGY⟩:=tO.Ln other ha;have ah3:w.heap.size≤p:=by rw[←hp];exact(HV.o.later hb).aY.size
  have hBY:Below w.heap.size w Y:=dI HX.o.aY hGY ah3;have adK:=Vu.rB;have Vz:Y.heap[p]?=some (.cells (SV m own once other zk).toArray 60 (0,0)):=by have:=Vu.row;rw[List.append_nil] at this;exact this
  have hIY:=oJ adK;obtain⟨L2,hL2⟩:=aW (SV m own once other zk);rw[hL2] at adK Vz hIY;have cY:=aj Vz;have HIY:ae ((prog.info? 60).map (·.size)=some L2.toArray.size):=by show _=_;simpa using hIY
  have Mc:=aj hBY;have Ja:=aj hL2;clear hX hb hVV fW hL tO Vu hGY hBY Vz hIY hL2 HV
  go_wp2_with (first|refine jz rfl rfl ?_|(refine wpList_load_row rfl 24 (.tmp 6) rfl (w.heap.size+1) rfl 24 (other.map bv).toArray (0,0) _ ?_ underlying24 rfl (hI.out other ha) ?_;exact HX.o.cell (w.heap.size+1,24,other.map bv) (by simp))|refine wpList_load_row rfl 60 (.tmp 9) rfl p rfl 60 L2.toArray (0,0) _ cY.o underlying60 rfl HIY.o ?_|refine RE L2 1 adK rfl (.tmp 17) (.const (.int .i64 1)) rfl rfl rfl ?_|fail)
  go_ret
  refine⟨Y.heap.size,rfl,Mc.o.size,Mc.o.alloc Mc.o.size _,zk,?_,.inl rfl,(λh=>absurd (show true=false from h) (by decide)),?_⟩
  ·refine iI.of ?_ ?_ ?_ ?_ ⟨ho,hn,ha,rfl⟩
   ·rw[HM.o];show(Y.alloc _).heap[Y.heap.size]?=some (.cells (SV m own once other zk++[Value.int .i64 1]).toArray _ (0,0));rw[Ja.o];exact eC Y _
   ·rw[HM.o];exact jc.out.1
   ·rw[HM.o];exact jc.out.2.1
   ·rw[HM.o];exact jc.out.2.2.1
  ·rw[HM.o,jc.out.2.2.2];omega
theorem BF (pa:bW)(pl pc:Nat)(gj own once:aO)(w:aw)(ho:own.length=32)(hn:once.length=32)(hP:bj w pa pl gj)(LQ:pa=none→pc=0)(tN:pl≤1000)(TL:pl≤pc)(hpm:pc≤maxLen)(hT:TT w):
  Calls prog 7 #[.slice pa pl pc,.agg (own.map bv).toArray,.agg (once.map bv).toArray] w λe w'=>∃g,e= .returned (.pointer (some ⟨g,0,none⟩))∧w.heap.size≤g∧Below w.heap.size w w'∧ju w' g (NS.answer aZ gj own once):=by
 have hI:ae (∀l:aO,l.length=32→(prog.info? 24).map (·.size)=some (l.map bv).toArray.size):=λl hl=>wR hl;have gC:ae (Vw w ((w.alloc (.cells (own.map bv).toArray 24)).alloc (.cells (once.map bv).toArray 24)) [(w.heap.size,24,own.map bv),(w.heap.size+1,24,once.map bv)]):=by have h:=((Vw.none w).alloc 24 (own.map bv)).alloc 24 (once.map bv);simp only[fx] at h;exact h
 have HT:=aj hT;have HP:=aj hP;have hpu:=eI own;obtain⟨R,hR⟩:=aW (bN own);have HR:ae (zA 32 (mX (fC (fc own)) 9)=R):=hR;rw[hR] at hpu;obtain⟨m,hm⟩:=aW (((MS.start aZ).hash gj).hash R);have HM:ae ((NS.answer aZ gj own once).M=m):=by rw[←hm,←hR];exact rfl
 have jc:ae (m.C.length=32∧m.H.length=32∧m.K.length=32∧m.n=0):=by rw[←hm];exact⟨nB aZ,we _ _,rfl,rfl⟩
 have Vy:=aj hm;clear hT hP hm hR
 go_enter func7,ntmps7
 refine wp_seq (wp_cut (λa W=>a={tmps:=#[.slice pa pl pc,.agg (own.map bv).toArray,.agg (once.map bv).toArray,ag,.pointer (some ⟨w.heap.size,0,none⟩),.pointer (some ⟨w.heap.size+1,0,none⟩),.pointer none,ag,ag,ag,ag,ag,ag,ag,ag],defers:=[]}∧ae (Vw w W [(w.heap.size,24,own.map bv),(w.heap.size+1,24,once.map bv)])) ?_ ?_)
 ·go_wp2
  all_goals first|exact gC|exact⟨rfl,gC⟩|exact⟨rfl,rfl,gC⟩
 ·rintro a W0 ⟨rfl,HV⟩;clear gC;simp only[Exit.then];obtain⟨W,hW⟩:=aW (W0.drew);have Sx:=aj (hW▸HV.o.drew);have pd:=aj hW;clear hW HV
  go_wp2_with fail
  refine ah (G:=bM) (by kernel_rfl) bM.refl bM.trans (by kernel_rfl) [(0,true),(1,true),(2,true),(3,true),(4,false),(5,false),(6,true),(7,false),(8,true)] rfl (by kernel_rfl) ?_;intro KK cA;rw[pd.o];refine aa rfl (by rfl) (v:=?_) ?_ ?_
  rotate_left
  ·intro w' hw';clear hw';go_simp;with_reducible rfl
  go_simp
  refine aa rfl (by rfl) (v:=.agg (own.map bv).toArray) (λw' hw'=>ar 24 _ rfl w.heap.size rfl 24 _ (0,0) _ ((Sx.o.later hw').cell (w.heap.size,24,own.map bv) (by simp)) underlying24 rfl (hI.out own ho)) ?_;go_simp
  refine aa rfl (by rfl) (v:=.agg (once.map bv).toArray) (λw' hw'=>ar 24 _ rfl (w.heap.size+1) rfl 24 _ (0,0) _ ((Sx.o.later hw').cell (w.heap.size+1,24,once.map bv) (by simp)) underlying24 rfl (hI.out once hn)) ?_;go_simp
  refine aa rfl (by rfl) (v:=.agg (own.map bv).toArray) (λw' hw'=>ar 24 _ rfl w.heap.size rfl 24 _ (0,0) _ ((Sx.o.later hw').cell (w.heap.size,24,own.map bv) (by simp)) underlying24 rfl (hI.out own ho)) ?_;go_simp
  refine aU (f:=5) (args:=#[.agg (own.map bv).toArray]) rfl (by rfl) (by go_simp) ?_;refine(oz own W ho (HT.o.2.later Sx.o.aY)).mono ?_;rintro e V ⟨rfl,hb⟩;refine⟨_,rfl,hb,?_⟩;rw[HR.o];have HVV:=aj (Sx.o.later hb);clear hb;go_simp
  refine aU (f:=23) (args:=#[.slice pa pl pc,.agg (own.map bv).toArray,.agg (once.map bv).toArray,.agg (R.map bv).toArray]) rfl (by rfl) (by go_simp) ?_;refine(zZ pa pl pc gj own once R V ho hn hpu (HP.o.later HVV.o.aY) LQ tN TL hpm (HT.o.later HVV.o.aY)).mono ?_;rintro e U ⟨rfl,hb⟩;refine⟨_,rfl,hb,?_⟩;rw[Vy.o];have UE:(SV m own once zk zk).length=226:=by rw[SV,List.length_append,mr _ _ _ _ _ jc.out.1 jc.out.2.1 jc.out.2.2.1,qX ⟨ho,hn,rfl,rfl⟩]
  obtain⟨L,hL⟩:=aW (SV m own once zk zk);rw[hL] at UE⊢;have HU:=aj (HVV.o.later hb);have HLe:=aj hL;clear hb hL;go_simp
  refine aa rfl (by rfl) (v:=.agg (L++[Value.int .i64 4]).toArray) (λw' hw'=>Zl L 4 UE (.tmp 12) (.const (.int .i64 4)) rfl rfl rfl) ?_;go_simp
  have eZ:Below U.heap.size U (U.alloc (.cells (L++[Value.int .i64 4]).toArray 64)):=eF;obtain⟨Z,hZ⟩:=aW (U.alloc (.cells (L++[Value.int .i64 4]).toArray 64));have aaQ:Z.heap[U.heap.size]?=some (.cells (L++[Value.int .i64 4]).toArray 64 (0,0)):=by rw[←hZ];exact eC U _
  rw[hZ] at eZ;have Ax:=aj eZ;have Oa:=aj aaQ;clear eZ aaQ;refine fZ rfl (by rfl) (v:=.pointer (some ⟨U.heap.size,0,none⟩)) (w':=Z) (by rw[←hZ];go_simp) Ax.o ?_;clear hZ;go_simp
  iterate 1 (refine aa rfl (by rfl) (v:=?_) ?_ ?_;rotate_left;(intro w' hw';clear hw';go_simp;with_reducible rfl);go_simp)
  refine az cA ?_;clear cA
  go_wp2_with fail
  go_ret
  refine⟨U.heap.size,rfl,HU.o.aY.size,HU.o.aY.trans (Ax.o.mono HU.o.aY.size),zk,?_,.inl rfl,(λ_ h=>absurd (show(0:Nat)=1 from h) (by decide)),?_⟩
  ·refine iI.of ?_ ?_ ?_ ?_ ⟨ho,hn,rfl,rfl⟩
   ·rw[HM.o];show Z.heap[U.heap.size]?=some (.cells (SV m own once zk zk++[Value.int .i64 4]).toArray _ (0,0));rw[HLe.o];exact Oa.o
   ·rw[HM.o];exact jc.out.1
   ·rw[HM.o];exact jc.out.2.1
   ·rw[HM.o];exact jc.out.2.2.1
  ·rw[HM.o,jc.out.2.2.2];omega
theorem Eu (g:Nat)(x:NS)(w:aw)(h:ju w g x):
  Calls prog 18 #[.pointer (some ⟨g,0,none⟩)] w λe w'=>e= .returned (.agg (x.S.map bv).toArray)∧Below w.heap.size w w'∧x.S.length=32:=by
 obtain⟨seen,hs⟩:=h;have hlen:=hs.sd.k4.c;obtain⟨R,hR⟩:=aW (x.S);have HS:=aj hs.sd;rw[hR] at HS hlen⊢;have xA:=cJ w 24 R 32 hlen (by kernel_rfl) eY (by kernel_rfl);simp only[eY,cz] at xA;have HI:=aj (rC hlen);have HIA:=aj (wR hlen);have cM:Below w.heap.size w (w.alloc (.cells (R.map bv).toArray 24)):=eF;have hA:=dz.new w 24 R;obtain⟨X,hX⟩:=aW (w.alloc (.cells (R.map bv).toArray 24));rw[hX] at xA cM hA;have HB:=aj cM;have HA:=aj hA;clear hX cM hA hs hR
 go_enter func18,ntmps18
 go_wp2_with (first|(refine cD rfl 24 (.tmp 6) rfl g 162 rfl (R.map bv) _ ?_ underlying24 rfl HI.o ?_;exact(HS.o.later eF).En)|fail)
 (try simp only[nu,Exit.then])
 refine bodyPost_ret (results_cell_row rfl _ _ w.heap.size 24 _ (0,0) _ rfl HA.o underlying24 rfl HIA.o) rfl ?_;exact⟨rfl,HB.o,hlen⟩
structure Cw (w:aw)(gs pb:Nat)(c:bW)(lc cc:Nat)(b:aO):Prop where
 p:w.heap[pb]?=some (.cells #[.slice c lc cc] 22 (0,0))
 b:bj w c lc b
 bn:c=none→cc=0
 lcc:lc≤cc
 ccm:cc≤maxLen
 ne:pb≠gs
 cg:0<lc→∀x o f,c=some ⟨x,o,f⟩→x≠gs
 t:TT w
 k:E7 gs
 wl:gs<w.heap.size
structure Cl (w W:aw)(gs pb:Nat)(c:bW)(lc cc:Nat)(b:aO)(m:MS)(own once other seen:aO):Prop where
 cw:Cw w gs pb c lc cc b
 sd:Sd W gs m own once other seen
 g:w.grownBy W (some gs)
section
variable {w W W':aw} {gs pb:Nat} {c:bW} {lc cc:Nat} {b:aO} {m m':MS} {own once other seen N9 Eo yE aaE:aO}
theorem Cl.step (x:Cl w W gs pb c lc cc b m own once other seen)(hG:W.grownBy W' (some gs))(hS:Sd W' gs m' N9 Eo yE aaE):Cl w W' gs pb c lc cc b m' N9 Eo yE aaE:=
 ⟨x.cw,hS,World.grownBy.trans x.g hG⟩
theorem Cl.later (x:Cl w W gs pb c lc cc b m own once other seen)(hb:Below W.heap.size W W'):Cl w W' gs pb c lc cc b m own once other seen:=
 x.step (bI.below gs hb) (x.sd.later hb)
theorem Cl.row (x:Cl w W gs pb c lc cc b m own once other seen){r:Option Nat}(hG:W.grownBy W' r)(hr:∀g',r=some g'→w.heap.size≤g'):Cl w W' gs pb c lc cc b m own once other seen:=by
 have hl:=x.cw.wl;have hs:=x.g.size;refine⟨x.cw,iI.of ?_ x.sd.mi.c x.sd.mi.h x.sd.mi.k x.sd.k4,⟨hG.os.trans x.g.os,hG.tape.trans x.g.tape,hG.output.trans x.g.output,kx x.g.size hG.size,λk hk eL=>?_⟩⟩
 ·rw[hG.block gs (by omega) (λe=>by have:=hr gs e.symm;omega)];exact x.sd.row
 ·rw[hG.block k (by omega) (λe=>by have:=hr k e.symm;omega)];exact x.g.block k hk eL
theorem Cl.nw (x:Cl w W gs pb c lc cc b m own once other seen):bj W c lc b:=x.cw.b.Cu x.g x.cw.cg
theorem Cl.tab (x:Cl w W gs pb c lc cc b m own once other seen):TT W:=x.cw.t.but x.g x.cw.k
theorem Cl.cell (x:Cl w W gs pb c lc cc b m own once other seen):W.cell? ⟨pb,0,none⟩=some (.slice c lc cc):=by have h:=x.g.block pb (gD.1 x.cw.p).1 (λe=>x.cw.ne (by cases e;rfl));rw[cell_of_row W pb 0 _ _ (0,0) (h.trans x.cw.p)];rfl
theorem Cl.Ob (x:Cl w W gs pb c lc cc b m own once other seen)(hG:W.grownBy W' (some gs)){v:Value}{n:Nat}{xs:bK}(h:W.ownsRow w.heap.size 5 1 v n xs):W'.ownsRow w.heap.size 5 1 v n xs:=
 cT h hG (λb' cU e=>by
  have h1:=(aad h b' cU).1;have h2:=x.cw.wl;cases e
  omega)
end
theorem qY {w W:aw}(hb:Below w.drew.heap.size w.drew W):Below w.heap.size w W:=((bZ w.heap.size w).drew).trans hb
def B8 (w w':aw)(gs:Nat)(e:Ending)(er:Nat)(m:MS)(own once other seen out:aO):Prop:=
 (er=0∧∃v q,e= .returned v∧w.grownBy w' (some gs)∧Sd w' gs m own once other seen∧w'.ownsRow w.heap.size 5 1 v q (out.map bv))∨(er≠0∧e=pan er∧w.grownBy w' (some gs))
theorem B8.ok {w w':aw}{gs er q:Nat}{v:Value}{m:MS}{own once other seen out:aO}(h0:er=0)(hG:w.grownBy w' (some gs))(hS:Sd w' gs m own once other seen)(hO:w'.ownsRow w.heap.size 5 1 v q (out.map bv)):B8 w w' gs (.returned v) er m own once other seen out:=
 .inl ⟨h0,v,q,rfl,hG,hS,hO⟩
theorem B8.no {w w':aw}{gs er k:Nat}{m:MS}{own once other seen out:aO}(h0:er=k)(hk:k≠0)(hG:w.grownBy w' (some gs)):B8 w w' gs (pan k) er m own once other seen out:=
 .inr ⟨by rw[h0];exact hk,by rw[h0],hG⟩
def fE (x:NS):Nat:=if NS.ok x.once x.S∧NS.ok x.own x.S then 0 else 4
def sE (x:NS):Nat:=if NS.ok x.once x.R∧NS.ok x.once x.S then 0 else 4
def hE (x:NS)(b:aO):Nat:=if b.length<96 then 2 else if¬NS.ok x.own (NS.hR b) then 4 else if(NS.h1 x b).err (NS.hB b)≠0 then(NS.h1 x b).err (NS.hB b) else if¬NS.ok x.own (NS.hS x b) then 4 else(NS.h2 x b).err (b.drop 80)
def dE (x:NS)(b:aO):Nat:=if b.length<48 then 2 else if¬(NS.ok x.once (NS.hR b)∧NS.ok x.own (NS.hR b)) then 4 else(NS.d1 x b).err (b.drop 32)
theorem Lr (gs pb:Nat)(x:NS)(seen:aO)(c:bW)(lc cc:Nat)(b:aO)(w:aw)(hC:Cl w w gs pb c lc cc b x.M x.own x.once x.S seen)(hn:x.M.n≤100)(ig:lc≤800):
  Calls prog 28 #[.pointer (some ⟨gs,0,none⟩),.pointer (some ⟨pb,0,none⟩)] w λe w'=>B8 w w' gs e (fE x) ((NS.f2 x).d9 b) x.own x.once x.S seen (NS.dV x b):=by
 have HC:=aj hC;have kW:=hC.cw.b.1;obtain⟨EE,yF⟩:∃E,fE x=E:=⟨_,rfl⟩;have GC:=aj yF;obtain⟨O,Oc⟩:=aW (NS.dV x b);have hO:=aj Oc;obtain⟨M5,yG⟩:∃M,(NS.f2 x).d9 b=M:=⟨_,rfl⟩;have B7:=aj yG;rw[yF,Oc,yG];clear yF Oc yG hC
 go_enter func28,ntmps28
 go_wp2_with fail
 refine(xY gs _ _ _ _ _ w HC.o.sd HC.o.tab HC.o.cw.k).mono ?_;rintro e w1 ⟨vt,rfl,hG,hS,cH⟩;have f8:ae (w1.ownsRow w.heap.size 5 1 vt 32 ((bN x.once).map bv)):=cH;replace HC:=aj (HC.o.step hG hS);obtain⟨m1,sC⟩:∃m,x.M.hash (bN x.once)=m:=⟨_,rfl⟩;rw[sC] at HC;have Im:=aj sC;clear hG hS cH sC
 go_wp2_with fail
 refine fo 9 (by decide) (by kernel_rfl) (by kernel_rfl) (by kernel_rfl) (by kernel_rfl)
  (λj x' W'=>match j with
   |3=>x'= .pointer (some ⟨gs,130,none⟩)
   |4=>x'= .agg ((x.once).map bv).toArray
   |7=>x'= .pointer (some ⟨gs,162,none⟩)
   |8=>x'= .agg ((x.S).map bv).toArray
   |_=>x'= .pointer (some ⟨gs,0,none⟩)) ?_ ?_ ?_
 ·intro j x' W W' h hb;exact h
 ·intro d v W' i o A hi ho hv aX hA hb;have uO:=(HC.o.later gl).later hb;have gw:i=0∨i=1∨i=2∨i=3∨i=4∨i=5∨i=6∨i=7∨i=8:=by omega
  rcases gw with rfl|rfl|rfl|rfl|rfl|rfl|rfl|rfl|rfl
  ·cases ho
   have h0:A.tmps[0]?.getD ag= .pointer (some ⟨gs,0,none⟩):=dp ((hA.keep 0 (by kernel_rfl)).trans rfl);exact opv (.pointer (some ⟨gs,0,none⟩)) rfl (by go_simp) rfl
  ·cases ho
   have h0:A.tmps[0]?.getD ag= .pointer (some ⟨gs,0,none⟩):=dp ((hA.keep 0 (by kernel_rfl)).trans rfl);exact opv (.pointer (some ⟨gs,0,none⟩)) rfl (by go_simp) rfl
  ·cases ho
   have h0:A.tmps[9]?.getD ag= .pointer (some ⟨gs,0,none⟩):=dp (hA.g aX 1 9 (by kernel_rfl) (hv 1));exact opv (.pointer (some ⟨gs,0,none⟩)) rfl (by go_simp) rfl
  ·cases ho
   have h0:A.tmps[10]?.getD ag= .pointer (some ⟨gs,0,none⟩):=dp (hA.g aX 2 10 (by kernel_rfl) (hv 2));exact opv (.pointer (some ⟨gs,130,none⟩)) rfl (by go_simp) rfl
  ·cases ho
   have h0:A.eval (.tmp 11)= .pointer (some ⟨gs,130,none⟩):=hA.g aX 3 11 (by kernel_rfl) (hv 3);exact opv (.agg ((x.once).map bv).toArray) rfl (bE 24 _ rfl gs 130 h0 ((x.once).map bv) _ uO.sd.Ll underlying24 rfl (rC uO.sd.k4.b)) rfl
  ·cases ho
   have h0:A.tmps[0]?.getD ag= .pointer (some ⟨gs,0,none⟩):=dp ((hA.keep 0 (by kernel_rfl)).trans rfl);exact opv (.pointer (some ⟨gs,0,none⟩)) rfl (by go_simp) rfl
  ·cases ho
   have h0:A.tmps[13]?.getD ag= .pointer (some ⟨gs,0,none⟩):=dp (hA.g aX 5 13 (by kernel_rfl) (hv 5));exact opv (.pointer (some ⟨gs,0,none⟩)) rfl (by go_simp) rfl
  ·cases ho
   have h0:A.tmps[14]?.getD ag= .pointer (some ⟨gs,0,none⟩):=dp (hA.g aX 6 14 (by kernel_rfl) (hv 6));exact opv (.pointer (some ⟨gs,162,none⟩)) rfl (by go_simp) rfl
  ·cases ho
   have h0:A.eval (.tmp 15)= .pointer (some ⟨gs,162,none⟩):=hA.g aX 7 15 (by kernel_rfl) (hv 7);exact opv (.agg ((x.S).map bv).toArray) rfl (bE 24 _ rfl gs 162 h0 ((x.S).map bv) _ uO.sd.En underlying24 rfl (rC uO.sd.k4.c)) rfl
 ·intro my W' hv hb;have Ev:=(HC.o.later gl).later hb;have BN:=qY hb;replace f8:=aj (cT f8.o (cG BN) (λb' _ e=>by cases e));clear BN;have e0:=hv 0 (by decide);have e4:=hv 4 (by decide);have e8:=hv 8 (by decide);have HD:=aj Ev;clear Ev hv hb HC;refine zJ (a':={tmps:=#[.pointer (some ⟨gs,0,none⟩),.pointer (some ⟨pb,0,none⟩),ag,.slice none 0 0,vt,ag,.pointer (some ⟨gs,0,none⟩),vt,my 0,my 1,my 2,my 3,my 4,my 5,my 6,my 7,my 8,ag,ag,ag,ag,ag,ag,ag,ag,ag,ag,ag,ag,ag,ag,ag,ag,ag,ag,ag,ag,ag,ag,ag,ag,ag,ag],defers:=[]}) rfl (by kernel_rfl) ?_;rw[e0,e4,e8];clear e0 e4 e8
  go_wp2_with fail
  by_cases h0:mK (x.once) (x.S)=0
  ·have Ak:ae (EE=4):=by show _=_;rw[←GC.out];unfold fE;rw[if_neg (λh=>h.1 h0)]
   refine(rU gs m1 [] [] [] [] (x.once) (x.S) W' HD.o.sd.k4.b HD.o.sd.k4.c HD.o.tab h0).mono ?_;rintro e w2 ⟨rfl,cM⟩;have jR:=aj (HD.o.later cM).g;clear cM HD h0
   go_wp2_with fail
   exact⟨rfl,B8.no Ak.o (by decide) jR.o⟩
  ·have H1:=aj h0;refine(rT gs m1 _ _ _ _ (x.once) (x.S) W' HD.o.sd HD.o.sd.k4.b HD.o.sd.k4.c HD.o.tab HD.o.cw.k h0).mono ?_;clear h0;rintro e w2 ⟨⟨u1,rfl⟩,hG,hS⟩;obtain⟨m2,nO⟩:∃m,m1.key (eH x.once x.S)=m:=⟨_,rfl⟩;rw[nO] at hS;have hf1:NS.f1 x=m2:=by unfold NS.f1;rw[Im.o,nO]
   have RF:=aj hf1;have ane:m2.n=0:=by rw[←nO];rfl
   have h48:(m2.out (bN x.own)).length=48:=by rw[←nO,NS.mz,eI]
   clear nO hf1;have HC:=aj (HD.o.step hG hS);replace f8:=aj (HD.o.Ob hG f8.o);clear hG hS HD
   go_wp2_with (first|(refine cD rfl 24 (.tmp 20) rfl gs 98 rfl (x.own.map bv) _ ?_ underlying24 rfl (rC HC.o.sd.k4.a) ?_;exact HC.o.sd.Vt)|fail)
   refine(oz x.own w2 HC.o.sd.k4.a HC.o.tab.2).mono ?_;rintro e w3 ⟨rfl,hb⟩;have tN:=eI x.own;obtain⟨R,RB⟩:=aW (bN x.own);have oF:zA 32 (mX (fC (fc x.own)) 9)=R:=RB;rw[RB] at tN;rw[oF];rw[RB] at h48;have HR:=aj RB;have xA:=cJ w3 24 R 32 tN (by kernel_rfl) eY (by kernel_rfl);simp only[eY,cz] at xA;have hA:=dz.new w3 24 R;have cM:Below w3.heap.size w3 (w3.alloc (.cells (R.map bv).toArray 24)):=eF;obtain⟨p,hp⟩:=aW (w3.heap.size);have hpw:w.heap.size≤p:=by rw[←hp];exact(HC.o.later hb).g.size
   obtain⟨w4,Wu⟩:∃W,w3.alloc (.cells (R.map bv).toArray 24)=W:=⟨_,rfl⟩;rw[Wu] at xA hA cM;rw[hp] at xA hA;have HA:=aj hA;have hC3:=HC.o.later hb;replace f8:=aj (cT (cT f8.o (show w2.grownBy w3 none from cG hb) (λb' _ e=>by cases e)) (show w3.grownBy w4 none from cG cM) (λb' _ e=>by cases e));replace HC:=aj (hC3.later cM);clear hb cM hA hC3 RB oF Wu
   go_wp2_with fail
   clear xA hp;have hpg:p≠gs:=by have:=HC.o.cw.wl;omega
   refine(AU gs m2 _ _ _ _ (some ⟨p,0,none⟩) 32 32 R w4 HC.o.sd (by omega) (HA.o.nw 32 tN) (λe=>by cases e) (by omega) (by omega) (by unfold maxLen;omega) HC.o.tab HC.o.cw.k).mono ?_;rintro e w5 ⟨v5,rfl,hG,hS,nF⟩;have VA:=HC.o.g.size;have jG:=HC.o.g;replace f8:=aj (HC.o.Ob hG f8.o);replace HC:=aj (HC.o.step hG hS);obtain⟨m3,xx⟩:∃m,m2.d9 R=m:=⟨_,rfl⟩;rw[xx] at HC;have Hm3:=aj xx;obtain⟨O2,TA⟩:∃O,m2.out R=O:=⟨_,rfl⟩;rw[TA] at h48 nF;have anh:=aj TA;rw[h48] at nF;obtain⟨a5,c5,rfl,sP,WC,LU,LN⟩:=bq nF;have ani:=bx w5 w.heap.size vt 32 (bN x.once) f8.o a5 48 c5 O2 sP LN HC.o.g.size (by omega);obtain⟨v6,w6,UP,qo,T8⟩:=ani;have Cx:=aj qo;have anj:=aj UP;have bh:∀g',vt.ownBlock=some g'→w.heap.size≤g':=λg' h=>(aad f8.o g' h).1;replace HC:=aj (HC.o.row T8 bh);clear hG hS nF xx TA sP WC LU LN UP qo T8 bh VA jG HA
   go_wp2_with (at_builtin;refine ao rfl (.tmp 23) (.tmp 26) 22 rfl _ _ _ _ rfl rfl anj.o ?_)
   refine fo 9 (by decide) (by kernel_rfl) (by kernel_rfl) (by kernel_rfl) (by kernel_rfl)
    (λj x' W'=>match j with
     |3=>x'= .pointer (some ⟨gs,98,none⟩)
     |4=>x'= .agg ((x.own).map bv).toArray
     |7=>x'= .pointer (some ⟨gs,162,none⟩)
     |8=>x'= .agg ((x.S).map bv).toArray
     |_=>x'= .pointer (some ⟨gs,0,none⟩)) ?_ ?_ ?_
   ·intro j x' W W' h hb;exact h
   ·intro d v W' i o A hi ho hv aX hA hb;have uO:=(HC.o.later gl).later hb;have gw:i=0∨i=1∨i=2∨i=3∨i=4∨i=5∨i=6∨i=7∨i=8:=by omega
    rcases gw with rfl|rfl|rfl|rfl|rfl|rfl|rfl|rfl|rfl
    ·cases ho
     have h0:A.tmps[0]?.getD ag= .pointer (some ⟨gs,0,none⟩):=dp ((hA.keep 0 (by kernel_rfl)).trans rfl);exact opv (.pointer (some ⟨gs,0,none⟩)) rfl (by go_simp) rfl
    ·cases ho
     have h0:A.tmps[0]?.getD ag= .pointer (some ⟨gs,0,none⟩):=dp ((hA.keep 0 (by kernel_rfl)).trans rfl);exact opv (.pointer (some ⟨gs,0,none⟩)) rfl (by go_simp) rfl
    ·cases ho
     have h0:A.tmps[29]?.getD ag= .pointer (some ⟨gs,0,none⟩):=dp (hA.g aX 1 29 (by kernel_rfl) (hv 1));exact opv (.pointer (some ⟨gs,0,none⟩)) rfl (by go_simp) rfl
    ·cases ho
     have h0:A.tmps[30]?.getD ag= .pointer (some ⟨gs,0,none⟩):=dp (hA.g aX 2 30 (by kernel_rfl) (hv 2));exact opv (.pointer (some ⟨gs,98,none⟩)) rfl (by go_simp) rfl
    ·cases ho
     have h0:A.eval (.tmp 31)= .pointer (some ⟨gs,98,none⟩):=hA.g aX 3 31 (by kernel_rfl) (hv 3);exact opv (.agg ((x.own).map bv).toArray) rfl (bE 24 _ rfl gs 98 h0 ((x.own).map bv) _ uO.sd.Vt underlying24 rfl (rC uO.sd.k4.a)) rfl
    ·cases ho
     have h0:A.tmps[0]?.getD ag= .pointer (some ⟨gs,0,none⟩):=dp ((hA.keep 0 (by kernel_rfl)).trans rfl);exact opv (.pointer (some ⟨gs,0,none⟩)) rfl (by go_simp) rfl
    ·cases ho
     have h0:A.tmps[33]?.getD ag= .pointer (some ⟨gs,0,none⟩):=dp (hA.g aX 5 33 (by kernel_rfl) (hv 5));exact opv (.pointer (some ⟨gs,0,none⟩)) rfl (by go_simp) rfl
    ·cases ho
     have h0:A.tmps[34]?.getD ag= .pointer (some ⟨gs,0,none⟩):=dp (hA.g aX 6 34 (by kernel_rfl) (hv 6));exact opv (.pointer (some ⟨gs,162,none⟩)) rfl (by go_simp) rfl
    ·cases ho
     have h0:A.eval (.tmp 35)= .pointer (some ⟨gs,162,none⟩):=hA.g aX 7 35 (by kernel_rfl) (hv 7);exact opv (.agg ((x.S).map bv).toArray) rfl (bE 24 _ rfl gs 162 h0 ((x.S).map bv) _ uO.sd.En underlying24 rfl (rC uO.sd.k4.c)) rfl
   ·intro uP W' hv hb;have Ev:=(HC.o.later gl).later hb;have BN:=qY hb;replace Cx:=aj (cT Cx.o (cG BN) (λb' _ e=>by cases e));clear BN;have e0:=hv 0 (by decide);have e4:=hv 4 (by decide);have e8:=hv 8 (by decide);have HD:=aj Ev;clear Ev hv hb HC;refine zJ (a':={tmps:=#[.pointer (some ⟨gs,0,none⟩),.pointer (some ⟨pb,0,none⟩),ag,.slice none 0 0,v6,.pointer (some ⟨p,0,none⟩),.pointer (some ⟨gs,0,none⟩),vt,.pointer (some ⟨gs,0,none⟩),my 1,my 2,my 3,.agg ((x.once).map bv).toArray,my 5,my 6,my 7,.agg ((x.S).map bv).toArray,u1,.pointer (some ⟨gs,0,none⟩),.pointer (some ⟨gs,0,none⟩),.pointer (some ⟨gs,98,none⟩),.agg (x.own.map bv).toArray,.agg (R.map bv).toArray,vt,.pointer (some ⟨gs,0,none⟩),.slice (some ⟨p,0,none⟩) 32 32,.slice a5 48 c5,v6,uP 0,uP 1,uP 2,uP 3,uP 4,uP 5,uP 6,uP 7,uP 8,ag,ag,ag,ag,ag,ag],defers:=[]}) rfl (by kernel_rfl) ?_;rw[e0,e4,e8];clear e0 e4 e8
    go_wp2_with fail
    by_cases h0:mK (x.own) (x.S)=0
    ·have Ak:ae (EE=4):=by show _=_;rw[←GC.out];unfold fE;rw[if_neg (λh=>h.2 h0)]
     refine(rU gs m3 [] [] [] [] (x.own) (x.S) W' HD.o.sd.k4.a HD.o.sd.k4.c HD.o.tab h0).mono ?_;rintro e w2 ⟨rfl,cM⟩;have jR:=aj (HD.o.later cM).g;clear cM HD h0
     go_wp2_with fail
     exact⟨rfl,B8.no Ak.o (by decide) jR.o⟩
    ·have H2:=aj h0;refine(rT gs m3 _ _ _ _ (x.own) (x.S) W' HD.o.sd HD.o.sd.k4.a HD.o.sd.k4.c HD.o.tab HD.o.cw.k h0).mono ?_;clear h0;rintro e w2 ⟨⟨u2,rfl⟩,hG,hS⟩;obtain⟨m4,H5⟩:∃m,m3.key (eH x.own x.S)=m:=⟨_,rfl⟩;rw[H5] at hS;have Mb:NS.f2 x=m4:=by unfold NS.f2;rw[RF.o,HR.o,Hm3.o,H5]
     have Io:=aj Mb;have adL:m4.n=0:=by rw[←H5];rfl
     have Be:(m4.out b).length=lc+16:=by rw[←H5,NS.mz,kW]
     clear H5 Mb;have HC:=aj (HD.o.step hG hS);replace Cx:=aj (HD.o.Ob hG Cx.o);clear hG hS HD;have fl:=HC.o.cell
     go_wp2_with fail
     clear fl;refine(AU gs m4 _ _ _ _ c lc cc b w2 HC.o.sd (by omega) HC.o.nw HC.o.cw.bn (by omega) HC.o.cw.lcc HC.o.cw.ccm HC.o.tab HC.o.cw.k).mono ?_;rintro e w7 ⟨v7,rfl,hG,hS,nT⟩;replace Cx:=aj (HC.o.Ob hG Cx.o);replace HC:=aj (HC.o.step hG hS);obtain⟨O3,DE⟩:∃O,m4.out b=O:=⟨_,rfl⟩;rw[DE] at Be nT;rw[Be] at nT;obtain⟨a7,c7,rfl,yj,Rd,hm7,J1⟩:=bq nT;obtain⟨v8,w8,VB,wS,ql⟩:=bx w7 w.heap.size v6 (32+48) (bN x.once++O2) Cx.o a7 (lc+16) c7 O3 yj J1 HC.o.g.size (by omega);have adM:=aj VB;have bh:∀g',v6.ownBlock=some g'→w.heap.size≤g':=λg' h=>(aad Cx.o g' h).1;replace HC:=aj (HC.o.row ql bh);have Jk:ae (w8.ownsRow w.heap.size 5 1 v8 (32+48+(lc+16)) (O.map bv)):=by rw[←hO.out];unfold NS.dV;rw[RF.o,HR.o,Io.o,anh.o,DE];exact wS
     have Vy:ae (m4.d9 b=M5):=by rw[←B7.out,Io.o];exact rfl
     have Rn:ae (EE=0):=by rw[←GC.out];show(if _ then _ else _)=_;rw[if_pos ⟨H1.o,H2.o⟩]
     clear hG hS nT DE yj Rd hm7 J1 VB wS ql bh
     go_wp2_with (at_builtin;refine ao rfl (.tmp 38) (.tmp 41) 22 rfl _ _ _ _ rfl rfl adM.o ?_)
     go_ret
     exact B8.ok Rn.o HC.o.g (by rw[←Vy.o];exact HC.o.sd) Jk.o
theorem Ip (gs pb:Nat)(x:NS)(seen:aO)(c:bW)(lc cc:Nat)(b:aO)(w:aw)(hC:Cl w w gs pb c lc cc b x.M x.own x.once x.S seen)(hn:x.M.n≤100)(ig:lc≤800)(yT:seen=x.R):
  Calls prog 39 #[.pointer (some ⟨gs,0,none⟩),.pointer (some ⟨pb,0,none⟩)] w λe w'=>B8 w w' gs e (sE x) ((NS.s1 x).d9 b) x.own x.once x.S seen (NS.dm x b):=by
 subst yT;have HC:=aj hC;have kW:=hC.cw.b.1;obtain⟨EE,yF⟩:∃E,sE x=E:=⟨_,rfl⟩;have GC:=aj yF;obtain⟨O,Oc⟩:=aW (NS.dm x b);have hO:=aj Oc;obtain⟨M5,yG⟩:∃M,(NS.s1 x).d9 b=M:=⟨_,rfl⟩;have B7:=aj yG;rw[yF,Oc,yG];clear yF Oc yG hC
 go_enter func39,ntmps39
 go_wp2_with fail
 refine(xY gs _ _ _ _ _ w HC.o.sd HC.o.tab HC.o.cw.k).mono ?_;rintro e w1 ⟨vt,rfl,hG,hS,cH⟩;have f8:ae (w1.ownsRow w.heap.size 5 1 vt 32 ((bN x.once).map bv)):=cH;replace HC:=aj (HC.o.step hG hS);obtain⟨m1,sC⟩:∃m,x.M.hash (bN x.once)=m:=⟨_,rfl⟩;rw[sC] at HC;have Im:=aj sC;clear hG hS cH sC
 go_wp2_with fail
 refine fo 9 (by decide) (by kernel_rfl) (by kernel_rfl) (by kernel_rfl) (by kernel_rfl)
  (λj x' W'=>match j with
   |3=>x'= .pointer (some ⟨gs,130,none⟩)
   |4=>x'= .agg ((x.once).map bv).toArray
   |7=>x'= .pointer (some ⟨gs,194,none⟩)
   |8=>x'= .agg ((x.R).map bv).toArray
   |_=>x'= .pointer (some ⟨gs,0,none⟩)) ?_ ?_ ?_
 ·intro j x' W W' h hb;exact h
 ·intro d v W' i o A hi ho hv aX hA hb;have uO:=(HC.o.later gl).later hb;have gw:i=0∨i=1∨i=2∨i=3∨i=4∨i=5∨i=6∨i=7∨i=8:=by omega
  rcases gw with rfl|rfl|rfl|rfl|rfl|rfl|rfl|rfl|rfl
  ·cases ho
   have h0:A.tmps[0]?.getD ag= .pointer (some ⟨gs,0,none⟩):=dp ((hA.keep 0 (by kernel_rfl)).trans rfl);exact opv (.pointer (some ⟨gs,0,none⟩)) rfl (by go_simp) rfl
  ·cases ho
   have h0:A.tmps[0]?.getD ag= .pointer (some ⟨gs,0,none⟩):=dp ((hA.keep 0 (by kernel_rfl)).trans rfl);exact opv (.pointer (some ⟨gs,0,none⟩)) rfl (by go_simp) rfl
  ·cases ho
   have h0:A.tmps[8]?.getD ag= .pointer (some ⟨gs,0,none⟩):=dp (hA.g aX 1 8 (by kernel_rfl) (hv 1));exact opv (.pointer (some ⟨gs,0,none⟩)) rfl (by go_simp) rfl
  ·cases ho
   have h0:A.tmps[9]?.getD ag= .pointer (some ⟨gs,0,none⟩):=dp (hA.g aX 2 9 (by kernel_rfl) (hv 2));exact opv (.pointer (some ⟨gs,130,none⟩)) rfl (by go_simp) rfl
  ·cases ho
   have h0:A.eval (.tmp 10)= .pointer (some ⟨gs,130,none⟩):=hA.g aX 3 10 (by kernel_rfl) (hv 3);exact opv (.agg ((x.once).map bv).toArray) rfl (bE 24 _ rfl gs 130 h0 ((x.once).map bv) _ uO.sd.Ll underlying24 rfl (rC uO.sd.k4.b)) rfl
  ·cases ho
   have h0:A.tmps[0]?.getD ag= .pointer (some ⟨gs,0,none⟩):=dp ((hA.keep 0 (by kernel_rfl)).trans rfl);exact opv (.pointer (some ⟨gs,0,none⟩)) rfl (by go_simp) rfl
  ·cases ho
   have h0:A.tmps[12]?.getD ag= .pointer (some ⟨gs,0,none⟩):=dp (hA.g aX 5 12 (by kernel_rfl) (hv 5));exact opv (.pointer (some ⟨gs,0,none⟩)) rfl (by go_simp) rfl
  ·cases ho
   have h0:A.tmps[13]?.getD ag= .pointer (some ⟨gs,0,none⟩):=dp (hA.g aX 6 13 (by kernel_rfl) (hv 6));exact opv (.pointer (some ⟨gs,194,none⟩)) rfl (by go_simp) rfl
  ·cases ho
   have h0:A.eval (.tmp 14)= .pointer (some ⟨gs,194,none⟩):=hA.g aX 7 14 (by kernel_rfl) (hv 7);exact opv (.agg ((x.R).map bv).toArray) rfl (bE 24 _ rfl gs 194 h0 ((x.R).map bv) _ uO.sd.Lm underlying24 rfl (rC uO.sd.k4.d)) rfl
 ·intro my W' hv hb;have Ev:=(HC.o.later gl).later hb;have BN:=qY hb;replace f8:=aj (cT f8.o (cG BN) (λb' _ e=>by cases e));clear BN;have e0:=hv 0 (by decide);have e4:=hv 4 (by decide);have e8:=hv 8 (by decide);have HD:=aj Ev;clear Ev hv hb HC;refine zJ (a':={tmps:=#[.pointer (some ⟨gs,0,none⟩),.pointer (some ⟨pb,0,none⟩),ag,.slice none 0 0,vt,.pointer (some ⟨gs,0,none⟩),vt,my 0,my 1,my 2,my 3,my 4,my 5,my 6,my 7,my 8,ag,ag,ag,ag,ag,ag,ag,ag,ag,ag,ag,ag,ag,ag,ag,ag],defers:=[]}) rfl (by kernel_rfl) ?_;rw[e0,e4,e8];clear e0 e4 e8
  go_wp2_with fail
  by_cases h0:mK (x.once) (x.R)=0
  ·have Ak:ae (EE=4):=by show _=_;rw[←GC.out];unfold sE;rw[if_neg (λh=>h.1 h0)]
   refine(rU gs m1 [] [] [] [] (x.once) (x.R) W' HD.o.sd.k4.b HD.o.sd.k4.d HD.o.tab h0).mono ?_;rintro e w2 ⟨rfl,cM⟩;have jR:=aj (HD.o.later cM).g;clear cM HD h0
   go_wp2_with fail
   exact⟨rfl,B8.no Ak.o (by decide) jR.o⟩
  ·have H1:=aj h0;refine(rT gs m1 _ _ _ _ (x.once) (x.R) W' HD.o.sd HD.o.sd.k4.b HD.o.sd.k4.d HD.o.tab HD.o.cw.k h0).mono ?_;clear h0;rintro e w2 ⟨⟨u1,rfl⟩,hG,hS⟩;obtain⟨m2,nO⟩:∃m,m1.key (eH x.once x.R)=m:=⟨_,rfl⟩;rw[nO] at hS;have Hm2:=aj nO;clear nO;have HC:=aj (HD.o.step hG hS);replace f8:=aj (HD.o.Ob hG f8.o);clear hG hS HD
   go_wp2_with fail
   refine fo 9 (by decide) (by kernel_rfl) (by kernel_rfl) (by kernel_rfl) (by kernel_rfl)
    (λj x' W'=>match j with
     |3=>x'= .pointer (some ⟨gs,130,none⟩)
     |4=>x'= .agg ((x.once).map bv).toArray
     |7=>x'= .pointer (some ⟨gs,162,none⟩)
     |8=>x'= .agg ((x.S).map bv).toArray
     |_=>x'= .pointer (some ⟨gs,0,none⟩)) ?_ ?_ ?_
   ·intro j x' W W' h hb;exact h
   ·intro d v W' i o A hi ho hv aX hA hb;have uO:=(HC.o.later gl).later hb;have gw:i=0∨i=1∨i=2∨i=3∨i=4∨i=5∨i=6∨i=7∨i=8:=by omega
    rcases gw with rfl|rfl|rfl|rfl|rfl|rfl|rfl|rfl|rfl
    ·cases ho
     have h0:A.tmps[0]?.getD ag= .pointer (some ⟨gs,0,none⟩):=dp ((hA.keep 0 (by kernel_rfl)).trans rfl);exact opv (.pointer (some ⟨gs,0,none⟩)) rfl (by go_simp) rfl
    ·cases ho
     have h0:A.tmps[0]?.getD ag= .pointer (some ⟨gs,0,none⟩):=dp ((hA.keep 0 (by kernel_rfl)).trans rfl);exact opv (.pointer (some ⟨gs,0,none⟩)) rfl (by go_simp) rfl
    ·cases ho
     have h0:A.tmps[18]?.getD ag= .pointer (some ⟨gs,0,none⟩):=dp (hA.g aX 1 18 (by kernel_rfl) (hv 1));exact opv (.pointer (some ⟨gs,0,none⟩)) rfl (by go_simp) rfl
    ·cases ho
     have h0:A.tmps[19]?.getD ag= .pointer (some ⟨gs,0,none⟩):=dp (hA.g aX 2 19 (by kernel_rfl) (hv 2));exact opv (.pointer (some ⟨gs,130,none⟩)) rfl (by go_simp) rfl
    ·cases ho
     have h0:A.eval (.tmp 20)= .pointer (some ⟨gs,130,none⟩):=hA.g aX 3 20 (by kernel_rfl) (hv 3);exact opv (.agg ((x.once).map bv).toArray) rfl (bE 24 _ rfl gs 130 h0 ((x.once).map bv) _ uO.sd.Ll underlying24 rfl (rC uO.sd.k4.b)) rfl
    ·cases ho
     have h0:A.tmps[0]?.getD ag= .pointer (some ⟨gs,0,none⟩):=dp ((hA.keep 0 (by kernel_rfl)).trans rfl);exact opv (.pointer (some ⟨gs,0,none⟩)) rfl (by go_simp) rfl
    ·cases ho
     have h0:A.tmps[22]?.getD ag= .pointer (some ⟨gs,0,none⟩):=dp (hA.g aX 5 22 (by kernel_rfl) (hv 5));exact opv (.pointer (some ⟨gs,0,none⟩)) rfl (by go_simp) rfl
    ·cases ho
     have h0:A.tmps[23]?.getD ag= .pointer (some ⟨gs,0,none⟩):=dp (hA.g aX 6 23 (by kernel_rfl) (hv 6));exact opv (.pointer (some ⟨gs,162,none⟩)) rfl (by go_simp) rfl
    ·cases ho
     have h0:A.eval (.tmp 24)= .pointer (some ⟨gs,162,none⟩):=hA.g aX 7 24 (by kernel_rfl) (hv 7);exact opv (.agg ((x.S).map bv).toArray) rfl (bE 24 _ rfl gs 162 h0 ((x.S).map bv) _ uO.sd.En underlying24 rfl (rC uO.sd.k4.c)) rfl
   ·intro uP W' hv hb;have Ev:=(HC.o.later gl).later hb;have BN:=qY hb;replace f8:=aj (cT f8.o (cG BN) (λb' _ e=>by cases e));clear BN;have e0:=hv 0 (by decide);have e4:=hv 4 (by decide);have e8:=hv 8 (by decide);have HD:=aj Ev;clear Ev hv hb HC;refine zJ (a':={tmps:=#[.pointer (some ⟨gs,0,none⟩),.pointer (some ⟨pb,0,none⟩),ag,.slice none 0 0,vt,.pointer (some ⟨gs,0,none⟩),vt,.pointer (some ⟨gs,0,none⟩),my 1,my 2,my 3,.agg ((x.once).map bv).toArray,my 5,my 6,my 7,.agg ((x.R).map bv).toArray,u1,uP 0,uP 1,uP 2,uP 3,uP 4,uP 5,uP 6,uP 7,uP 8,ag,ag,ag,ag,ag,ag],defers:=[]}) rfl (by kernel_rfl) ?_;rw[e0,e4,e8];clear e0 e4 e8
    go_wp2_with fail
    by_cases h0:mK (x.once) (x.S)=0
    ·have Ak:ae (EE=4):=by show _=_;rw[←GC.out];unfold sE;rw[if_neg (λh=>h.2 h0)]
     refine(rU gs m2 [] [] [] [] (x.once) (x.S) W' HD.o.sd.k4.b HD.o.sd.k4.c HD.o.tab h0).mono ?_;rintro e w2 ⟨rfl,cM⟩;have jR:=aj (HD.o.later cM).g;clear cM HD h0
     go_wp2_with fail
     exact⟨rfl,B8.no Ak.o (by decide) jR.o⟩
    ·have H2:=aj h0;refine(rT gs m2 _ _ _ _ (x.once) (x.S) W' HD.o.sd HD.o.sd.k4.b HD.o.sd.k4.c HD.o.tab HD.o.cw.k h0).mono ?_;clear h0;rintro e w2 ⟨⟨u2,rfl⟩,hG,hS⟩;obtain⟨m4,H5⟩:∃m,m2.key (eH x.once x.S)=m:=⟨_,rfl⟩;rw[H5] at hS;have Mb:NS.s1 x=m4:=by unfold NS.s1;rw[Im.o,Hm2.o,H5]
     have Io:=aj Mb;have adL:m4.n=0:=by rw[←H5];rfl
     have Be:(m4.out b).length=lc+16:=by rw[←H5,NS.mz,kW]
     clear H5 Mb;have HC:=aj (HD.o.step hG hS);replace f8:=aj (HD.o.Ob hG f8.o);clear hG hS HD;have fl:=HC.o.cell
     go_wp2_with fail
     clear fl;refine(AU gs m4 _ _ _ _ c lc cc b w2 HC.o.sd (by omega) HC.o.nw HC.o.cw.bn (by omega) HC.o.cw.lcc HC.o.cw.ccm HC.o.tab HC.o.cw.k).mono ?_;rintro e w7 ⟨v7,rfl,hG,hS,nT⟩;replace f8:=aj (HC.o.Ob hG f8.o);replace HC:=aj (HC.o.step hG hS);obtain⟨O3,DE⟩:∃O,m4.out b=O:=⟨_,rfl⟩;rw[DE] at Be nT;rw[Be] at nT;obtain⟨a7,c7,rfl,yj,Rd,hm7,J1⟩:=bq nT;obtain⟨v8,w8,VB,wS,ql⟩:=bx w7 w.heap.size vt 32 (bN x.once) f8.o a7 (lc+16) c7 O3 yj J1 HC.o.g.size (by omega);have adM:=aj VB;have bh:∀g',vt.ownBlock=some g'→w.heap.size≤g':=λg' h=>(aad f8.o g' h).1;replace HC:=aj (HC.o.row ql bh);have Jk:ae (w8.ownsRow w.heap.size 5 1 v8 (32+(lc+16)) (O.map bv)):=by rw[←hO.out];unfold NS.dm;rw[Io.o,DE];exact wS
     have Vy:ae (m4.d9 b=M5):=by rw[←B7.out,Io.o];exact rfl
     have Rn:ae (EE=0):=by rw[←GC.out];show(if _ then _ else _)=_;rw[if_pos ⟨H1.o,H2.o⟩]
     clear hG hS nT DE yj Rd hm7 J1 VB wS ql bh
     go_wp2_with (at_builtin;refine ao rfl (.tmp 27) (.tmp 30) 22 rfl _ _ _ _ rfl rfl adM.o ?_)
     go_ret
     exact B8.ok Rn.o HC.o.g (by rw[←Vy.o];exact HC.o.sd) Jk.o
theorem RG (K H q:aO)(h:mZ K true 0 H q=0):(og K true 0 H q).length=q.length-16:=by
 have hl:¬(0:Nat)=gf:=by decide
 unfold mZ at h;unfold og;rw[if_neg (by decide),if_neg hl] at h⊢;split at h
 ·rename_i hs
  rw[if_pos hs,pL]
 ·cases h
theorem Iq (m:MS)(u q:aO)(h:(m.key u).err q=0):((m.key u).text q).length=q.length-16:=RG _ _ q h
theorem Od (gs pb:Nat)(x:NS)(seen:aO)(c:bW)(lc cc:Nat)(b:aO)(w:aw)(hC:Cl w w gs pb c lc cc b x.M x.own x.once x.S seen)(hn:x.M.n≤100)(ig:lc≤900):
  Calls prog 35 #[.pointer (some ⟨gs,0,none⟩),.pointer (some ⟨pb,0,none⟩)] w λe w'=>B8 w w' gs e (hE x b) ((NS.h2 x b).opened (b.drop 80)) x.own x.once (NS.hS x b) (NS.hR b) (NS.jI x b):=by
 have HC:=aj hC;have kW:=hC.cw.b.1;obtain⟨EE,yF⟩:∃E,hE x b=E:=⟨_,rfl⟩;have GC:=aj yF;obtain⟨O,Oc⟩:=aW (NS.jI x b);have hO:=aj Oc;obtain⟨M5,yG⟩:∃M,(NS.h2 x b).opened (b.drop 80)=M:=⟨_,rfl⟩;have B7:=aj yG;rw[yF,Oc,yG];clear yF Oc yG hC;have fl:=HC.o.cell
 by_cases hlen:lc<96
 ·have Ak:ae (EE=2):=by show _=_;rw[←GC.out];unfold hE;rw[if_pos (by rw[kW];exact hlen)]
  go_enter func35,ntmps35
  go_wp2_with fail
  refine(zX gs c lc cc 96 w hlen (by omega)).mono ?_;rintro e w2 ⟨rfl,rfl⟩
  go_wp2_with fail
  exact⟨rfl,B8.no Ak.o (by decide) (cR _ _)⟩
 ·obtain⟨cb,co,rfl,_⟩:=HC.o.nw.at_ 0 (by omega);have Si:=HC.o.cw.lcc;have m7:=HC.o.cw.ccm;have B9:=HC.o.cw.cg (by omega) cb co none rfl;have HL:ae (¬b.length<96):=by show¬_;rw[kW];exact hlen
  go_enter func35,ntmps35
  go_wp2_with fail
  clear fl;refine(xZ gs _ _ _ _ _ cb co lc cc 96 b w HC.o.sd HC.o.nw (by omega) (by omega) Si m7 B9 HC.o.tab HC.o.cw.k).mono ?_;rintro e w1 ⟨rfl,hG,hS⟩;replace HC:=aj (HC.o.step hG hS);obtain⟨m1,sC⟩:∃m,x.M.hash (b.take 32)=m:=⟨_,rfl⟩;rw[sC] at HC;have Im:ae (x.M.hash (NS.hR b)=m1):=sC;have hRR:b.take 32=NS.hR b:=rfl;rw[hRR] at HC;obtain⟨lr,Vv⟩:=aW (lc-32);obtain⟨cr,hcr⟩:=aW (cc-32);have i1:64≤lr:=by omega
  have i2:lr≤cr:=by omega
  have i3:(cr:Int)≤9223372036854775807:=by unfold maxLen at m7;omega
  have HlE:=aj (And.intro Vv hcr);rw[Vv,hcr];clear hG hS sC hRR Vv hcr
  go_wp2_with fail
  refine fo 9 (by decide) (by kernel_rfl) (by kernel_rfl) (by kernel_rfl) (by kernel_rfl)
   (λj x' W'=>match j with
    |3=>x'= .pointer (some ⟨gs,98,none⟩)
    |4=>x'= .agg ((x.own).map bv).toArray
    |7=>x'= .pointer (some ⟨gs,194,none⟩)
    |8=>x'= .agg ((NS.hR b).map bv).toArray
    |_=>x'= .pointer (some ⟨gs,0,none⟩)) ?_ ?_ ?_
  ·intro j x' W W' h hb;exact h
  ·intro d v W' i o A hi ho hv aX hA hb;have uO:=(HC.o.later gl).later hb;have gw:i=0∨i=1∨i=2∨i=3∨i=4∨i=5∨i=6∨i=7∨i=8:=by omega
   rcases gw with rfl|rfl|rfl|rfl|rfl|rfl|rfl|rfl|rfl
   ·cases ho
    have h0:A.tmps[0]?.getD ag= .pointer (some ⟨gs,0,none⟩):=dp ((hA.keep 0 (by kernel_rfl)).trans rfl);exact opv (.pointer (some ⟨gs,0,none⟩)) rfl (by go_simp) rfl
   ·cases ho
    have h0:A.tmps[0]?.getD ag= .pointer (some ⟨gs,0,none⟩):=dp ((hA.keep 0 (by kernel_rfl)).trans rfl);exact opv (.pointer (some ⟨gs,0,none⟩)) rfl (by go_simp) rfl
   ·cases ho
    have h0:A.tmps[10]?.getD ag= .pointer (some ⟨gs,0,none⟩):=dp (hA.g aX 1 10 (by kernel_rfl) (hv 1));exact opv (.pointer (some ⟨gs,0,none⟩)) rfl (by go_simp) rfl
   ·cases ho
    have h0:A.tmps[11]?.getD ag= .pointer (some ⟨gs,0,none⟩):=dp (hA.g aX 2 11 (by kernel_rfl) (hv 2));exact opv (.pointer (some ⟨gs,98,none⟩)) rfl (by go_simp) rfl
   ·cases ho
    have h0:A.eval (.tmp 12)= .pointer (some ⟨gs,98,none⟩):=hA.g aX 3 12 (by kernel_rfl) (hv 3);exact opv (.agg ((x.own).map bv).toArray) rfl (bE 24 _ rfl gs 98 h0 ((x.own).map bv) _ uO.sd.Vt underlying24 rfl (rC uO.sd.k4.a)) rfl
   ·cases ho
    have h0:A.tmps[0]?.getD ag= .pointer (some ⟨gs,0,none⟩):=dp ((hA.keep 0 (by kernel_rfl)).trans rfl);exact opv (.pointer (some ⟨gs,0,none⟩)) rfl (by go_simp) rfl
   ·cases ho
    have h0:A.tmps[14]?.getD ag= .pointer (some ⟨gs,0,none⟩):=dp (hA.g aX 5 14 (by kernel_rfl) (hv 5));exact opv (.pointer (some ⟨gs,0,none⟩)) rfl (by go_simp) rfl
   ·cases ho
    have h0:A.tmps[15]?.getD ag= .pointer (some ⟨gs,0,none⟩):=dp (hA.g aX 6 15 (by kernel_rfl) (hv 6));exact opv (.pointer (some ⟨gs,194,none⟩)) rfl (by go_simp) rfl
   ·cases ho
    have h0:A.eval (.tmp 16)= .pointer (some ⟨gs,194,none⟩):=hA.g aX 7 16 (by kernel_rfl) (hv 7);exact opv (.agg ((NS.hR b).map bv).toArray) rfl (bE 24 _ rfl gs 194 h0 ((NS.hR b).map bv) _ uO.sd.Lm underlying24 rfl (rC uO.sd.k4.d)) rfl
  ·intro my W' hv hb;have Ev:=(HC.o.later gl).later hb;have e0:=hv 0 (by decide);have e4:=hv 4 (by decide);have e8:=hv 8 (by decide);have HD:=aj Ev;clear Ev hv hb HC;refine zJ (a':={tmps:=#[.pointer (some ⟨gs,0,none⟩),.pointer (some ⟨pb,0,none⟩),ag,.slice none 0 0,.slice (some ⟨cb,co+32,none⟩) lr cr,ag,.pointer (some ⟨gs,0,none⟩),.slice (some ⟨cb,co,none⟩) lc cc,.slice (some ⟨cb,co+32,none⟩) lr cr,my 0,my 1,my 2,my 3,my 4,my 5,my 6,my 7,my 8,ag,ag,ag,ag,ag,ag,ag,ag,ag,ag,ag,ag,ag,ag,ag,ag,ag,ag,ag,ag,ag,ag,ag,ag,ag,ag],defers:=[]}) rfl (by kernel_rfl) ?_;rw[e0,e4,e8];clear e0 e4 e8
   go_wp2_with fail
   by_cases h0:mK (x.own) (NS.hR b)=0
   ·have Ak:ae (EE=4):=by show _=_;rw[←GC.out];unfold hE;rw[if_neg HL.o,if_pos (λh=>h h0)]
    refine(rU gs m1 [] [] [] [] (x.own) (NS.hR b) W' HD.o.sd.k4.a HD.o.sd.k4.d HD.o.tab h0).mono ?_;rintro e w2 ⟨rfl,cM⟩;have jR:=aj (HD.o.later cM).g;clear cM HD h0
    go_wp2_with fail
    exact⟨rfl,B8.no Ak.o (by decide) jR.o⟩
   ·have H1:=aj h0;refine(rT gs m1 _ _ _ _ (x.own) (NS.hR b) W' HD.o.sd HD.o.sd.k4.a HD.o.sd.k4.d HD.o.tab HD.o.cw.k h0).mono ?_;clear h0;rintro e w2 ⟨⟨u1,rfl⟩,hG,hS⟩;obtain⟨m2,nO⟩:∃m,m1.key (eH x.own (NS.hR b))=m:=⟨_,rfl⟩;rw[nO] at hS;have hf1:NS.h1 x b=m2:=by unfold NS.h1;rw[Im.o,nO]
    have RF:=aj hf1;have ane:m2.n=0:=by rw[←nO];rfl
    have Htl:ae (∀q,m2.err q=0→(m2.text q).length=q.length-16):=by rw[←nO];exact λq h=>Iq _ _ q h
    clear nO hf1;have HC:=aj (HD.o.step hG hS);clear hG hS HD
    go_wp2_with fail
    refine ah (G:=bX) (by kernel_rfl) bX.refl bX.trans (by kernel_rfl) [(0,true),(1,true),(2,true),(3,true),(4,true),(5,true)] rfl (by kernel_rfl) ?_;intro KK cA;obtain⟨w3,Mw⟩:∃W,w2.drew=W:=⟨_,rfl⟩;have cL:Below w2.heap.size w2 w3:=by rw[←Mw];exact gl
    replace HC:=aj (HC.o.later cL);rw[Mw];clear Mw cL;have i4:(48:Int)≤(cr:Int):=by omega
    have i5:(48:Int)≤(lr:Int):=by omega
    have i6:48≤cr:=by omega
    have i7:48≤lr:=by omega
    have i8:¬cr=48:=by omega
    iterate 6 (refine aa rfl (by rfl) (v:=?_) ?_ ?_;rotate_left;(intro w' hw';clear hw';go_simp;with_reducible rfl);go_simp)
    refine az cA ?_;clear cA;obtain⟨lq,hlq⟩:=aW (lr-48);obtain⟨cq,hcq⟩:=aW (cr-48)
    try rw[hlq]
    try rw[hcq]
    have HlQ:=aj (And.intro hlq hcq);have j1:lc=lq+80:=by have:=HlE.o;omega
    have j2:lq≤cq:=by omega
    have j3:cq≤maxLen:=by have:=HlE.o;omega
    have pz:bj w3 (some ⟨cb,co+32,none⟩) 48 (NS.hB b):=HC.o.nw.sub (n:=32) (q:=80) (by omega) (by omega);have rN:bj w3 (some ⟨cb,co+80,none⟩) lq (b.drop 80):=by have:=HC.o.nw.sub (n:=80) (q:=lc) (by omega) (di _);rw[show lc-80=lq by omega,su (by rw[List.length_drop];omega)] at this;exact this
    have iG:=aj pz;have sO:=aj rN;have aiB:=pz.1;clear pz rN hlq hcq i4 i5 i6 i7 i8;have j0:lq≤900:=by omega
    clear j1
    go_wp2_with fail
    by_cases I6:m2.err (NS.hB b)=0
    rotate_left
    ·have Ak:ae (EE=m2.err (NS.hB b)):=by show _=_;rw[←GC.out];unfold hE;rw[if_neg HL.o,if_neg (λh=>h H1.o),RF.o,if_pos I6]
     have hnz:ae (m2.err (NS.hB b)≠0):=I6;refine(Es gs m2 _ _ _ _ (some ⟨cb,co+32,none⟩) 48 cr (NS.hB b) w3 HC.o.sd (by omega) iG.o (λe=>by cases e) (by omega) (by omega) (by unfold maxLen;omega) (λx o f e=>by cases e;exact B9) HC.o.tab HC.o.cw.k I6).mono ?_;clear I6;rintro e w4 ⟨rfl,hG⟩;have Av:ae (w.grownBy w4 (some gs)):=World.grownBy.trans HC.o.g hG;clear hG
     go_wp2_with fail
     exact⟨rfl,B8.no Ak.o hnz.out Av.o⟩
    ·refine(AV gs m2 _ _ _ _ (some ⟨cb,co+32,none⟩) 48 cr (NS.hB b) w3 HC.o.sd (by omega) iG.o (λe=>by cases e) (by omega) (by omega) (by unfold maxLen;omega) (λx o f e=>by cases e;exact B9) HC.o.tab HC.o.cw.k I6).mono ?_;rintro e w4 ⟨v4,rfl,hG,hS,iw⟩;have Ae:(m2.text (NS.hB b)).length=32:=by rw[Htl.o _ I6,aiB]
     have yL:=aj I6;have WI:ae (NS.hS x b=m2.text (NS.hB b)):=by show _=_;unfold NS.hS;rw[RF.o]
     obtain⟨R,hR⟩:=aW (m2.text (NS.hB b));obtain⟨m3,xx⟩:∃m,m2.opened (NS.hB b)=m:=⟨_,rfl⟩;rw[hR] at WI Ae iw;rw[xx] at hS;rw[Ae] at iw;have Hm3:=aj xx;obtain⟨vb,vc,rfl,Sn,J0⟩:=gO iw (by omega);obtain⟨a',c',e',TO,gi,jM,_⟩:=bq iw;cases e'
     have BV:=aj TO;have hvc:(vc:Int)≤9223372036854775807:=by unfold maxLen at jM;omega
     replace HC:=aj (HC.o.step hG hS);replace sO:=aj (gu sO.o hG (λx o f e=>by cases e;exact B9));obtain⟨W5,xA,vB,jG⟩:=HC.o.sd.Ln R Ae;have hat:(Instr.arrayAt 24 (.slice (some ⟨vb,0,none⟩) 32 vc)).run prog w4= .ok (.pointer (some ⟨vb,0,none⟩)) w4:=by simp[Instr.arrayAt,run_underlying underlying24]
     have HC5:=aj (HC.o.step jG vB);have nY:=aj (gu sO.o jG (λx o f e=>by cases e;exact B9));clear hG hS iw J0 TO jG vB sO HC hR xx I6 iG aiB Sn gi jM
     go_wp2_with (first|refine eQ rfl 24 _ rfl vb 0 32 32 5 R rfl BV.o underlying24 (by kernel_rfl) ?_|fail)
     clear xA hat BV;have HC:=HC5;clear HC5;refine fo 9 (by decide) (by kernel_rfl) (by kernel_rfl) (by kernel_rfl) (by kernel_rfl)
      (λj x' W'=>match j with
       |3=>x'= .pointer (some ⟨gs,98,none⟩)
       |4=>x'= .agg ((x.own).map bv).toArray
       |7=>x'= .pointer (some ⟨gs,162,none⟩)
       |8=>x'= .agg ((R).map bv).toArray
       |_=>x'= .pointer (some ⟨gs,0,none⟩)) ?_ ?_ ?_
     ·intro j x' W W' h hb;exact h
     ·intro d v W' i o A hi ho hv aX hA hb;have uO:=(HC.o.later gl).later hb;have gw:i=0∨i=1∨i=2∨i=3∨i=4∨i=5∨i=6∨i=7∨i=8:=by omega
      rcases gw with rfl|rfl|rfl|rfl|rfl|rfl|rfl|rfl|rfl
      ·cases ho
       have h0:A.tmps[0]?.getD ag= .pointer (some ⟨gs,0,none⟩):=dp ((hA.keep 0 (by kernel_rfl)).trans rfl);exact opv (.pointer (some ⟨gs,0,none⟩)) rfl (by go_simp) rfl
      ·cases ho
       have h0:A.tmps[0]?.getD ag= .pointer (some ⟨gs,0,none⟩):=dp ((hA.keep 0 (by kernel_rfl)).trans rfl);exact opv (.pointer (some ⟨gs,0,none⟩)) rfl (by go_simp) rfl
      ·cases ho
       have h0:A.tmps[32]?.getD ag= .pointer (some ⟨gs,0,none⟩):=dp (hA.g aX 1 32 (by kernel_rfl) (hv 1));exact opv (.pointer (some ⟨gs,0,none⟩)) rfl (by go_simp) rfl
      ·cases ho
       have h0:A.tmps[33]?.getD ag= .pointer (some ⟨gs,0,none⟩):=dp (hA.g aX 2 33 (by kernel_rfl) (hv 2));exact opv (.pointer (some ⟨gs,98,none⟩)) rfl (by go_simp) rfl
      ·cases ho
       have h0:A.eval (.tmp 34)= .pointer (some ⟨gs,98,none⟩):=hA.g aX 3 34 (by kernel_rfl) (hv 3);exact opv (.agg ((x.own).map bv).toArray) rfl (bE 24 _ rfl gs 98 h0 ((x.own).map bv) _ uO.sd.Vt underlying24 rfl (rC uO.sd.k4.a)) rfl
      ·cases ho
       have h0:A.tmps[0]?.getD ag= .pointer (some ⟨gs,0,none⟩):=dp ((hA.keep 0 (by kernel_rfl)).trans rfl);exact opv (.pointer (some ⟨gs,0,none⟩)) rfl (by go_simp) rfl
      ·cases ho
       have h0:A.tmps[36]?.getD ag= .pointer (some ⟨gs,0,none⟩):=dp (hA.g aX 5 36 (by kernel_rfl) (hv 5));exact opv (.pointer (some ⟨gs,0,none⟩)) rfl (by go_simp) rfl
      ·cases ho
       have h0:A.tmps[37]?.getD ag= .pointer (some ⟨gs,0,none⟩):=dp (hA.g aX 6 37 (by kernel_rfl) (hv 6));exact opv (.pointer (some ⟨gs,162,none⟩)) rfl (by go_simp) rfl
      ·cases ho
       have h0:A.eval (.tmp 38)= .pointer (some ⟨gs,162,none⟩):=hA.g aX 7 38 (by kernel_rfl) (hv 7);exact opv (.agg ((R).map bv).toArray) rfl (bE 24 _ rfl gs 162 h0 ((R).map bv) _ uO.sd.En underlying24 rfl (rC uO.sd.k4.c)) rfl
     ·intro uP W' hv hb;replace nY:=aj (nY.o.later (qY hb));have Ev:=(HC.o.later gl).later hb;have e0:=hv 0 (by decide);have e4:=hv 4 (by decide);have e8:=hv 8 (by decide);have HD:=aj Ev;clear Ev hv hb HC;refine zJ (a':={tmps:=#[.pointer (some ⟨gs,0,none⟩),.pointer (some ⟨pb,0,none⟩),ag,.slice none 0 0,.slice (some ⟨cb,co+32+48,none⟩) lq cq,.slice (some ⟨cb,co+32,none⟩) 48 cr,.pointer (some ⟨gs,0,none⟩),.slice (some ⟨cb,co,none⟩) lc cc,.slice (some ⟨cb,co+32,none⟩) lr cr,.pointer (some ⟨gs,0,none⟩),my 1,my 2,my 3,.agg ((x.own).map bv).toArray,my 5,my 6,my 7,.agg ((NS.hR b).map bv).toArray,u1,.slice (some ⟨cb,co+32,none⟩) lr cr,.slice (some ⟨cb,co+32,none⟩) 48 cr,.slice (some ⟨cb,co+32,none⟩) lr cr,.slice (some ⟨cb,co+32+48,none⟩) lq cq,.pointer (some ⟨gs,0,none⟩),.pointer (some ⟨gs,0,none⟩),.slice (some ⟨cb,co+32,none⟩) 48 cr,.slice (some ⟨vb,0,none⟩) 32 vc,.pointer (some ⟨vb,0,none⟩),.agg (R.map bv).toArray,.pointer (some ⟨gs,0,none⟩),.pointer (some ⟨gs,162,none⟩),uP 0,uP 1,uP 2,uP 3,uP 4,uP 5,uP 6,uP 7,uP 8,ag,ag,ag,ag],defers:=[]}) rfl (by kernel_rfl) ?_;rw[e0,e4,e8];clear e0 e4 e8
      go_wp2_with fail
      by_cases h0:mK (x.own) (R)=0
      ·have Ak:ae (EE=4):=by show _=_;rw[←GC.out];unfold hE;rw[if_neg HL.o,if_neg (λh=>h H1.o),RF.o,if_neg (λh=>h yL.o),WI.o,if_pos (λh=>h h0)]
       refine(rU gs m3 [] [] [] [] (x.own) (R) W' HD.o.sd.k4.a HD.o.sd.k4.c HD.o.tab h0).mono ?_;rintro e w2 ⟨rfl,cM⟩;have jR:=aj (HD.o.later cM).g;clear cM HD h0
       go_wp2_with fail
       exact⟨rfl,B8.no Ak.o (by decide) jR.o⟩
      ·have H2:=aj h0;refine(rT gs m3 _ _ _ _ (x.own) (R) W' HD.o.sd HD.o.sd.k4.a HD.o.sd.k4.c HD.o.tab HD.o.cw.k h0).mono ?_;clear h0;rintro e w2 ⟨⟨u2,rfl⟩,hG,hS⟩;obtain⟨m4,H5⟩:∃m,m3.key (eH x.own R)=m:=⟨_,rfl⟩;rw[H5] at hS;have Mb:NS.h2 x b=m4:=by unfold NS.h2;rw[RF.o,WI.o,Hm3.o,H5]
       have Io:=aj Mb;have adL:m4.n=0:=by rw[←H5];rfl
       clear H5 Mb;replace nY:=aj (gu nY.o hG (λx o f e=>by cases e;exact B9));have HC:=aj (HD.o.step hG hS);clear hG hS HD
       go_wp2_with fail
       by_cases E5:m4.err (b.drop 80)=0
       rotate_left
       ·have Ak:ae (EE=m4.err (b.drop 80)):=by show _=_;rw[←GC.out];unfold hE;rw[if_neg HL.o,if_neg (λh=>h H1.o),RF.o,if_neg (λh=>h yL.o),WI.o,if_neg (λh=>h H2.o),Io.o]
        have hnz:ae (m4.err (b.drop 80)≠0):=E5;refine(Es gs m4 _ _ _ _ (some ⟨cb,co+80,none⟩) lq cq (b.drop 80) w2 HC.o.sd (by omega) nY.o (λe=>by cases e) (by omega) (by omega) (by omega) (λx o f e=>by cases e;exact B9) HC.o.tab HC.o.cw.k E5).mono ?_;clear E5;rintro e w4 ⟨rfl,hG⟩;have Av:ae (w.grownBy w4 (some gs)):=World.grownBy.trans HC.o.g hG;clear hG
        go_wp2_with fail
        exact⟨rfl,B8.no Ak.o hnz.out Av.o⟩
       ·have Rn:ae (EE=0):=by show _=_;rw[←GC.out];unfold hE;rw[if_neg HL.o,if_neg (λh=>h H1.o),RF.o,if_neg (λh=>h yL.o),WI.o,if_neg (λh=>h H2.o),Io.o];exact E5
        refine(AV gs m4 _ _ _ _ (some ⟨cb,co+80,none⟩) lq cq (b.drop 80) w2 HC.o.sd (by omega) nY.o (λe=>by cases e) (by omega) (by omega) (by omega) (λx o f e=>by cases e;exact B9) HC.o.tab HC.o.cw.k E5).mono ?_;clear E5;rintro e w6 ⟨v6,rfl,hG,hS,qo⟩;have HOe:ae (m4.text (b.drop 80)=O):=by show _=_;rw[←hO.out];unfold NS.jI;rw[Io.o]
        have Vy:ae (m4.opened (b.drop 80)=M5):=by show _=_;rw[←B7.out,Io.o]
        have jH:=HC.o.g.size;replace HC:=aj (HC.o.step hG hS);rw[HOe.o] at qo;have Cx:=aj (bQ qo jH);clear hG hS qo jH
        go_wp2_with fail
        go_ret
        exact B8.ok Rn.o HC.o.g (by rw[←Vy.o,WI.o];exact HC.o.sd) Cx.o
theorem Oe (gs pb:Nat)(x:NS)(seen:aO)(c:bW)(lc cc:Nat)(b:aO)(w:aw)(hC:Cl w w gs pb c lc cc b x.M x.own x.once x.S seen)(hn:x.M.n≤100)(ig:lc≤900):
  Calls prog 40 #[.pointer (some ⟨gs,0,none⟩),.pointer (some ⟨pb,0,none⟩)] w λe w'=>B8 w w' gs e (dE x b) ((NS.d1 x b).opened (b.drop 32)) x.own x.once x.S (NS.hR b) (NS.jo x b):=by
 have HC:=aj hC;have kW:=hC.cw.b.1;obtain⟨EE,yF⟩:∃E,dE x b=E:=⟨_,rfl⟩;have GC:=aj yF;obtain⟨O,Oc⟩:=aW (NS.jo x b);have hO:=aj Oc;obtain⟨M5,yG⟩:∃M,(NS.d1 x b).opened (b.drop 32)=M:=⟨_,rfl⟩;have B7:=aj yG;rw[yF,Oc,yG];clear yF Oc yG hC;have fl:=HC.o.cell
 by_cases hlen:lc<48
 ·have Ak:ae (EE=2):=by show _=_;rw[←GC.out];unfold dE;rw[if_pos (by rw[kW];exact hlen)]
  go_enter func40,ntmps40
  go_wp2_with fail
  refine(zX gs c lc cc 48 w hlen (by omega)).mono ?_;rintro e w2 ⟨rfl,rfl⟩
  go_wp2_with fail
  exact⟨rfl,B8.no Ak.o (by decide) (cR _ _)⟩
 ·obtain⟨cb,co,rfl,_⟩:=HC.o.nw.at_ 0 (by omega);have Si:=HC.o.cw.lcc;have m7:=HC.o.cw.ccm;have B9:=HC.o.cw.cg (by omega) cb co none rfl;have HL:ae (¬b.length<48):=by show¬_;rw[kW];exact hlen
  go_enter func40,ntmps40
  go_wp2_with fail
  clear fl;refine(xZ gs _ _ _ _ _ cb co lc cc 48 b w HC.o.sd HC.o.nw (by omega) (by omega) Si m7 B9 HC.o.tab HC.o.cw.k).mono ?_;rintro e w1 ⟨rfl,hG,hS⟩;replace HC:=aj (HC.o.step hG hS);obtain⟨m1,sC⟩:∃m,x.M.hash (b.take 32)=m:=⟨_,rfl⟩;rw[sC] at HC;have Im:ae (x.M.hash (NS.hR b)=m1):=sC;have hRR:b.take 32=NS.hR b:=rfl;rw[hRR] at HC;obtain⟨lr,Vv⟩:=aW (lc-32);obtain⟨cr,hcr⟩:=aW (cc-32);have i1:16≤lr:=by omega
  have i2:lr≤cr:=by omega
  have i3:(cr:Int)≤9223372036854775807:=by unfold maxLen at m7;omega
  have HlE:=aj (And.intro Vv hcr);rw[Vv,hcr];clear hG hS sC hRR Vv hcr
  go_wp2_with fail
  refine fo 9 (by decide) (by kernel_rfl) (by kernel_rfl) (by kernel_rfl) (by kernel_rfl)
   (λj x' W'=>match j with
    |3=>x'= .pointer (some ⟨gs,130,none⟩)
    |4=>x'= .agg ((x.once).map bv).toArray
    |7=>x'= .pointer (some ⟨gs,194,none⟩)
    |8=>x'= .agg ((NS.hR b).map bv).toArray
    |_=>x'= .pointer (some ⟨gs,0,none⟩)) ?_ ?_ ?_
  ·intro j x' W W' h hb;exact h
  ·intro d v W' i o A hi ho hv aX hA hb;have uO:=(HC.o.later gl).later hb;have gw:i=0∨i=1∨i=2∨i=3∨i=4∨i=5∨i=6∨i=7∨i=8:=by omega
   rcases gw with rfl|rfl|rfl|rfl|rfl|rfl|rfl|rfl|rfl
   ·cases ho
    have h0:A.tmps[0]?.getD ag= .pointer (some ⟨gs,0,none⟩):=dp ((hA.keep 0 (by kernel_rfl)).trans rfl);exact opv (.pointer (some ⟨gs,0,none⟩)) rfl (by go_simp) rfl
   ·cases ho
    have h0:A.tmps[0]?.getD ag= .pointer (some ⟨gs,0,none⟩):=dp ((hA.keep 0 (by kernel_rfl)).trans rfl);exact opv (.pointer (some ⟨gs,0,none⟩)) rfl (by go_simp) rfl
   ·cases ho
    have h0:A.tmps[9]?.getD ag= .pointer (some ⟨gs,0,none⟩):=dp (hA.g aX 1 9 (by kernel_rfl) (hv 1));exact opv (.pointer (some ⟨gs,0,none⟩)) rfl (by go_simp) rfl
   ·cases ho
    have h0:A.tmps[10]?.getD ag= .pointer (some ⟨gs,0,none⟩):=dp (hA.g aX 2 10 (by kernel_rfl) (hv 2));exact opv (.pointer (some ⟨gs,130,none⟩)) rfl (by go_simp) rfl
   ·cases ho
    have h0:A.eval (.tmp 11)= .pointer (some ⟨gs,130,none⟩):=hA.g aX 3 11 (by kernel_rfl) (hv 3);exact opv (.agg ((x.once).map bv).toArray) rfl (bE 24 _ rfl gs 130 h0 ((x.once).map bv) _ uO.sd.Ll underlying24 rfl (rC uO.sd.k4.b)) rfl
   ·cases ho
    have h0:A.tmps[0]?.getD ag= .pointer (some ⟨gs,0,none⟩):=dp ((hA.keep 0 (by kernel_rfl)).trans rfl);exact opv (.pointer (some ⟨gs,0,none⟩)) rfl (by go_simp) rfl
   ·cases ho
    have h0:A.tmps[13]?.getD ag= .pointer (some ⟨gs,0,none⟩):=dp (hA.g aX 5 13 (by kernel_rfl) (hv 5));exact opv (.pointer (some ⟨gs,0,none⟩)) rfl (by go_simp) rfl
   ·cases ho
    have h0:A.tmps[14]?.getD ag= .pointer (some ⟨gs,0,none⟩):=dp (hA.g aX 6 14 (by kernel_rfl) (hv 6));exact opv (.pointer (some ⟨gs,194,none⟩)) rfl (by go_simp) rfl
   ·cases ho
    have h0:A.eval (.tmp 15)= .pointer (some ⟨gs,194,none⟩):=hA.g aX 7 15 (by kernel_rfl) (hv 7);exact opv (.agg ((NS.hR b).map bv).toArray) rfl (bE 24 _ rfl gs 194 h0 ((NS.hR b).map bv) _ uO.sd.Lm underlying24 rfl (rC uO.sd.k4.d)) rfl
  ·intro my W' hv hb;have Ev:=(HC.o.later gl).later hb;have e0:=hv 0 (by decide);have e4:=hv 4 (by decide);have e8:=hv 8 (by decide);have HD:=aj Ev;clear Ev hv hb HC;refine zJ (a':={tmps:=#[.pointer (some ⟨gs,0,none⟩),.pointer (some ⟨pb,0,none⟩),ag,.slice none 0 0,.slice (some ⟨cb,co+32,none⟩) lr cr,.pointer (some ⟨gs,0,none⟩),.slice (some ⟨cb,co,none⟩) lc cc,.slice (some ⟨cb,co+32,none⟩) lr cr,my 0,my 1,my 2,my 3,my 4,my 5,my 6,my 7,my 8,ag,ag,ag,ag,ag,ag,ag,ag,ag,ag,ag,ag,ag,ag],defers:=[]}) rfl (by kernel_rfl) ?_;rw[e0,e4,e8];clear e0 e4 e8
   go_wp2_with fail
   by_cases h0:mK (x.once) (NS.hR b)=0
   ·have Ak:ae (EE=4):=by show _=_;rw[←GC.out];unfold dE;rw[if_neg HL.o,if_pos (λh=>h.1 h0)]
    refine(rU gs m1 [] [] [] [] (x.once) (NS.hR b) W' HD.o.sd.k4.b HD.o.sd.k4.d HD.o.tab h0).mono ?_;rintro e w2 ⟨rfl,cM⟩;have jR:=aj (HD.o.later cM).g;clear cM HD h0
    go_wp2_with fail
    exact⟨rfl,B8.no Ak.o (by decide) jR.o⟩
   ·have H1:=aj h0;refine(rT gs m1 _ _ _ _ (x.once) (NS.hR b) W' HD.o.sd HD.o.sd.k4.b HD.o.sd.k4.d HD.o.tab HD.o.cw.k h0).mono ?_;clear h0;rintro e w2 ⟨⟨u1,rfl⟩,hG,hS⟩;obtain⟨m2,nO⟩:∃m,m1.key (eH x.once (NS.hR b))=m:=⟨_,rfl⟩;rw[nO] at hS;have Hm2:=aj nO;clear nO;have HC:=aj (HD.o.step hG hS);clear hG hS HD
    go_wp2_with fail
    refine fo 9 (by decide) (by kernel_rfl) (by kernel_rfl) (by kernel_rfl) (by kernel_rfl)
     (λj x' W'=>match j with
      |3=>x'= .pointer (some ⟨gs,98,none⟩)
      |4=>x'= .agg ((x.own).map bv).toArray
      |7=>x'= .pointer (some ⟨gs,194,none⟩)
      |8=>x'= .agg ((NS.hR b).map bv).toArray
      |_=>x'= .pointer (some ⟨gs,0,none⟩)) ?_ ?_ ?_
    ·intro j x' W W' h hb;exact h
    ·intro d v W' i o A hi ho hv aX hA hb;have uO:=(HC.o.later gl).later hb;have gw:i=0∨i=1∨i=2∨i=3∨i=4∨i=5∨i=6∨i=7∨i=8:=by omega
     rcases gw with rfl|rfl|rfl|rfl|rfl|rfl|rfl|rfl|rfl
     ·cases ho
      have h0:A.tmps[0]?.getD ag= .pointer (some ⟨gs,0,none⟩):=dp ((hA.keep 0 (by kernel_rfl)).trans rfl);exact opv (.pointer (some ⟨gs,0,none⟩)) rfl (by go_simp) rfl
     ·cases ho
      have h0:A.tmps[0]?.getD ag= .pointer (some ⟨gs,0,none⟩):=dp ((hA.keep 0 (by kernel_rfl)).trans rfl);exact opv (.pointer (some ⟨gs,0,none⟩)) rfl (by go_simp) rfl
     ·cases ho
      have h0:A.tmps[19]?.getD ag= .pointer (some ⟨gs,0,none⟩):=dp (hA.g aX 1 19 (by kernel_rfl) (hv 1));exact opv (.pointer (some ⟨gs,0,none⟩)) rfl (by go_simp) rfl
     ·cases ho
      have h0:A.tmps[20]?.getD ag= .pointer (some ⟨gs,0,none⟩):=dp (hA.g aX 2 20 (by kernel_rfl) (hv 2));exact opv (.pointer (some ⟨gs,98,none⟩)) rfl (by go_simp) rfl
     ·cases ho
      have h0:A.eval (.tmp 21)= .pointer (some ⟨gs,98,none⟩):=hA.g aX 3 21 (by kernel_rfl) (hv 3);exact opv (.agg ((x.own).map bv).toArray) rfl (bE 24 _ rfl gs 98 h0 ((x.own).map bv) _ uO.sd.Vt underlying24 rfl (rC uO.sd.k4.a)) rfl
     ·cases ho
      have h0:A.tmps[0]?.getD ag= .pointer (some ⟨gs,0,none⟩):=dp ((hA.keep 0 (by kernel_rfl)).trans rfl);exact opv (.pointer (some ⟨gs,0,none⟩)) rfl (by go_simp) rfl
     ·cases ho
      have h0:A.tmps[23]?.getD ag= .pointer (some ⟨gs,0,none⟩):=dp (hA.g aX 5 23 (by kernel_rfl) (hv 5));exact opv (.pointer (some ⟨gs,0,none⟩)) rfl (by go_simp) rfl
     ·cases ho
      have h0:A.tmps[24]?.getD ag= .pointer (some ⟨gs,0,none⟩):=dp (hA.g aX 6 24 (by kernel_rfl) (hv 6));exact opv (.pointer (some ⟨gs,194,none⟩)) rfl (by go_simp) rfl
     ·cases ho
      have h0:A.eval (.tmp 25)= .pointer (some ⟨gs,194,none⟩):=hA.g aX 7 25 (by kernel_rfl) (hv 7);exact opv (.agg ((NS.hR b).map bv).toArray) rfl (bE 24 _ rfl gs 194 h0 ((NS.hR b).map bv) _ uO.sd.Lm underlying24 rfl (rC uO.sd.k4.d)) rfl
    ·intro uP W' hv hb;have Ev:=(HC.o.later gl).later hb;have e0:=hv 0 (by decide);have e4:=hv 4 (by decide);have e8:=hv 8 (by decide);have HD:=aj Ev;clear Ev hv hb HC;refine zJ (a':={tmps:=#[.pointer (some ⟨gs,0,none⟩),.pointer (some ⟨pb,0,none⟩),ag,.slice none 0 0,.slice (some ⟨cb,co+32,none⟩) lr cr,.pointer (some ⟨gs,0,none⟩),.slice (some ⟨cb,co,none⟩) lc cc,.slice (some ⟨cb,co+32,none⟩) lr cr,.pointer (some ⟨gs,0,none⟩),my 1,my 2,my 3,.agg ((x.once).map bv).toArray,my 5,my 6,my 7,.agg ((NS.hR b).map bv).toArray,u1,uP 0,uP 1,uP 2,uP 3,uP 4,uP 5,uP 6,uP 7,uP 8,ag,ag,ag,ag],defers:=[]}) rfl (by kernel_rfl) ?_;rw[e0,e4,e8];clear e0 e4 e8
     go_wp2_with fail
     by_cases h0:mK (x.own) (NS.hR b)=0
     ·have Ak:ae (EE=4):=by show _=_;rw[←GC.out];unfold dE;rw[if_neg HL.o,if_pos (λh=>h.2 h0)]
      refine(rU gs m2 [] [] [] [] (x.own) (NS.hR b) W' HD.o.sd.k4.a HD.o.sd.k4.d HD.o.tab h0).mono ?_;rintro e w2 ⟨rfl,cM⟩;have jR:=aj (HD.o.later cM).g;clear cM HD h0
      go_wp2_with fail
      exact⟨rfl,B8.no Ak.o (by decide) jR.o⟩
     ·have H2:=aj h0;refine(rT gs m2 _ _ _ _ (x.own) (NS.hR b) W' HD.o.sd HD.o.sd.k4.a HD.o.sd.k4.d HD.o.tab HD.o.cw.k h0).mono ?_;clear h0;rintro e w2 ⟨⟨u2,rfl⟩,hG,hS⟩;obtain⟨m4,H5⟩:∃m,m2.key (eH x.own (NS.hR b))=m:=⟨_,rfl⟩;rw[H5] at hS;have Mb:NS.d1 x b=m4:=by unfold NS.d1;rw[Im.o,Hm2.o,H5]
      have Io:=aj Mb;have adL:m4.n=0:=by rw[←H5];rfl
      clear H5 Mb;have HC:=aj (HD.o.step hG hS);clear hG hS HD
      go_wp2_with fail
      have rN:bj w2 (some ⟨cb,co+32,none⟩) lr (b.drop 32):=by have:=HC.o.nw.sub (n:=32) (q:=lc) (by omega) (di _);rw[HlE.o.1,su (by rw[List.length_drop];have:=HlE.o.1;omega)] at this;exact this
      have sO:=aj rN;have j0:lr≤900:=by have:=HlE.o.1;omega
      have j3:cr≤maxLen:=by have:=HlE.o.2;omega
      clear rN
      by_cases E5:m4.err (b.drop 32)=0
      rotate_left
      ·have Ak:ae (EE=m4.err (b.drop 32)):=by show _=_;rw[←GC.out];unfold dE;rw[if_neg HL.o,if_neg (λh=>h ⟨H1.o,H2.o⟩),Io.o]
       have hnz:ae (m4.err (b.drop 32)≠0):=E5;refine(Es gs m4 _ _ _ _ (some ⟨cb,co+32,none⟩) lr cr (b.drop 32) w2 HC.o.sd (by omega) sO.o (λe=>by cases e) (by omega) (by omega) (by omega) (λx o f e=>by cases e;exact B9) HC.o.tab HC.o.cw.k E5).mono ?_;clear E5;rintro e w4 ⟨rfl,hG⟩;have Av:ae (w.grownBy w4 (some gs)):=World.grownBy.trans HC.o.g hG;clear hG
       go_wp2_with fail
       exact⟨rfl,B8.no Ak.o hnz.out Av.o⟩
      ·have Rn:ae (EE=0):=by show _=_;rw[←GC.out];unfold dE;rw[if_neg HL.o,if_neg (λh=>h ⟨H1.o,H2.o⟩),Io.o];exact E5
       refine(AV gs m4 _ _ _ _ (some ⟨cb,co+32,none⟩) lr cr (b.drop 32) w2 HC.o.sd (by omega) sO.o (λe=>by cases e) (by omega) (by omega) (by omega) (λx o f e=>by cases e;exact B9) HC.o.tab HC.o.cw.k E5).mono ?_;clear E5;rintro e w6 ⟨v6,rfl,hG,hS,qo⟩;have HOe:ae (m4.text (b.drop 32)=O):=by show _=_;rw[←hO.out];unfold NS.jo;rw[Io.o]
       have Vy:ae (m4.opened (b.drop 32)=M5):=by show _=_;rw[←B7.out,Io.o]
       have jH:=HC.o.g.size;replace HC:=aj (HC.o.step hG hS);rw[HOe.o] at qo;have Cx:=aj (bQ qo jH);clear hG hS qo jH
       go_wp2_with fail
       go_ret
       exact B8.ok Rn.o HC.o.g (by rw[←Vy.o];exact HC.o.sd) Cx.o
end Go.Proofs.YtkdpblbhcfhagaaGreatDoor
