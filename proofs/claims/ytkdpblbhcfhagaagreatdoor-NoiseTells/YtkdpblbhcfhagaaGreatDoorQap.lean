import Derived.Test.YtkdpblbhcfhagaaGreatDoorQao
namespace Go.Proofs.YtkdpblbhcfhagaaGreatDoor
open Go.Proofs.Tryz
open _root_.Nat renaming le_refl → di, le_trans → kx, lt_of_lt_of_le → tV
open Go.RowKit.Below renaming refl → bZ, heap_alloc → jE
open Go.World renaming size_alloc → fx
open _root_.Array renaming getElem?_eq_some_iff → gD
open Go renaming undef → ag, World → aw, heap_alloc_new → eC
open _root_.List renaming replicate → cz, not_mem_nil → nj, mem_cons → mg, take_of_length_le → su
open Go.Exit renaming inBlock → nu
set_option maxHeartbeats 64000000
set_option linter.unusedVariables false
set_option maxRecDepth 100000
open Go.RowKit
theorem Zm (er:Nat)(w:aw):(Instr.typeAssert (.iface 36 (.int .i64 (er:Int))) 20 36 true).run prog w= .ok (.tuple #[.int .i64 (er:Int),.bool true]) w:=by have h:prog.underlying 36=some (.int .i64):=underlying36;simp[Instr.typeAssert,run_underlying underlying36]
theorem tI (p ph gh er:Nat)(aaR:List PanicEntry)(w:aw)(h1:w.cell? ⟨p,0,none⟩=some (.int .i64 0))(f1:w.frozen? ⟨p,0,none⟩=false)(h2:w.cell? ⟨ph,0,none⟩=some (.pointer (some ⟨gh,0,none⟩)))(eL:ph≠p)(hgp:gh≠p)(nx:Int)(h3:w.cell? ⟨gh,226,none⟩=some (.int .i64 nx))(f3:w.frozen? ⟨gh,226,none⟩=false):
  CallsD prog 55 #[.pointer (some ⟨p,0,none⟩),.pointer (some ⟨ph,0,none⟩)] (.panicking ({v:=.iface 36 (.int .i64 (er:Int)),recovered:=false}::aaR)) w λe u' w'=>
   e= .returned (.tuple #[])∧u'= .panicking ({v:=.iface 36 (.int .i64 (er:Int)),recovered:=true}::aaR)∧w'=(w.setCell ⟨p,0,none⟩ (.int .i64 (er:Int))).setCell ⟨gh,226,none⟩ (.int .i64 0):=by
 have hta:=Zm er;refine callsD_of_wpS func55 rfl λc₀ cs hu=>?_;apply wpS_seq;apply wpS_seq;apply wpS_region;simp[wpOpsS,go_sem,recoverD,hu,ntmps55,Exit.thenS];refine wpS_of_wp ?_;have ht:(#[Value.pointer (some ⟨p,0,none⟩),Value.pointer (some ⟨ph,0,none⟩)]++(Array.replicate 12 ag).setIfInBounds 3 (Value.iface 36 (Value.int IntKind.i64 (er:Int))))= #[Value.pointer (some ⟨p,0,none⟩),Value.pointer (some ⟨ph,0,none⟩),ag,ag,ag,Value.iface 36 (Value.int IntKind.i64 (er:Int)),ag,ag,ag,ag,ag,ag,ag,ag]:=rfl;rw[ht]
 go_wp2
 simp only[Exit.thenS];refine wpS_of_wp ?_
 go_wp2
 simp[bodyPostS,results,Tryz.results55]
theorem xl (p ph:Nat)(w:aw):CallsD prog 55 #[.pointer (some ⟨p,0,none⟩),.pointer (some ⟨ph,0,none⟩)] .returning w λe u' w'=>e= .returned (.tuple #[])∧u'= .returning∧w'=w:=by
 refine callsD_of_wpS func55 rfl λc₀ cs hu=>?_;apply wpS_seq;apply wpS_seq;apply wpS_region;simp[wpOpsS,go_sem,recoverD,hu,ntmps55,Exit.thenS];refine wpS_of_wp ?_;have ht:(#[Value.pointer (some ⟨p,0,none⟩),Value.pointer (some ⟨ph,0,none⟩)]++(Array.replicate 12 ag).setIfInBounds 3 Value.nilIface)= #[Value.pointer (some ⟨p,0,none⟩),Value.pointer (some ⟨ph,0,none⟩),ag,ag,ag,Value.nilIface,ag,ag,ag,ag,ag,ag,ag,ag]:=rfl;rw[ht]
 go_wp2
 simp[Exit.thenS,bodyPostS,results,Tryz.results55];cases c₀
 simp_all
theorem HaS.fail {w W:aw}{gh:Nat}{x:NS}{seen:aO}(h:HaS w gh x seen)(hb:Below w.heap.size w W):ju (W.setCell ⟨gh,226,none⟩ (.int .i64 0)) gh x.gI∧w.grownBy (W.setCell ⟨gh,226,none⟩ (.int .i64 0)) (some gh):=
 ⟨⟨seen,(h.sd.later hb).zW 0,.inr (.inr (.inr rfl)),(λ_ e=>absurd (show(9:Nat)=1 from e) (by decide)),h.n⟩,World.grownBy.trans (bI.below gh hb) (bI.setCell W gh 226 _)⟩
theorem PE {w W:aw}{L:List (Nat×TypeId×bK)}(h:Vw w W L){g:Nat}{t:TypeId}{v:Value}(hp:(g,t,[v])∈L):W.cell? ⟨g,0,none⟩=some v∧W.frozen? ⟨g,0,none⟩=false:=by have:=h.cell _ hp;exact⟨by rw[cell_of_row W g 0 _ _ (0,0) this];rfl,frozen_of_row W g 0 _ _ this⟩
def H6 (w:aw)(gh:Nat)(e:Int):List (Nat×TypeId×bK):=[(w.heap.size,28,[.pointer (some ⟨gh,0,none⟩)]),(w.heap.size+1,36,[.int .i64 e])]
theorem Ew (w:aw)(gh:Nat):Vw w ((w.alloc (.cells #[.pointer (some ⟨gh,0,none⟩)] 28)).alloc (.cells #[.int .i64 0] 36)) (H6 w gh 0):=by have h:=((Vw.none w).alloc 28 [.pointer (some ⟨gh,0,none⟩)]).alloc 36 [.int .i64 0];simp only[fx] at h;exact h
theorem uQ {w W:aw}{gh:Nat}{e:Int}(h:Vw w W (H6 w gh e)):W.cell? ⟨w.heap.size,0,none⟩=some (.pointer (some ⟨gh,0,none⟩))∧W.frozen? ⟨w.heap.size,0,none⟩=false:=PE h (t:=28) (by unfold H6;exact List.mem_cons_self ..)
theorem Ex {w W:aw}{gh:Nat}{e:Int}(h:Vw w W (H6 w gh e)):W.cell? ⟨w.heap.size+1,0,none⟩=some (.int .i64 e)∧W.frozen? ⟨w.heap.size+1,0,none⟩=false:=PE h (t:=36) (by unfold H6;exact List.mem_cons_of_mem _ (List.mem_cons_self ..))
theorem sI {w W:aw}{gh:Nat}{e:Int}(h:Vw w W (H6 w gh e))(k:Int):Vw w (W.setCell ⟨w.heap.size+1,0,none⟩ (.int .i64 k)) (H6 w gh k):=
 h.setCell 1 (w.heap.size+1) 36 [.int .i64 e] 0 (.int .i64 k) rfl
theorem oC {w W W':aw}{gh:Nat}{e:Int}(h:Vw w W (H6 w gh e))(hG:W.grownBy W' (some gh))(hg:gh<w.heap.size):W'.cell? ⟨w.heap.size,0,none⟩=some (.pointer (some ⟨gh,0,none⟩))∧W'.cell? ⟨w.heap.size+1,0,none⟩=some (.int .i64 e)∧W'.frozen? ⟨w.heap.size+1,0,none⟩=false:=by have h1:=h.cell (w.heap.size,28,[.pointer (some ⟨gh,0,none⟩)]) (List.mem_cons_self ..);have h2:=h.cell (w.heap.size+1,36,[.int .i64 e]) (List.mem_cons_of_mem _ (List.mem_cons_self ..));have l1:w.heap.size<W.heap.size:=(gD.1 h1).1;have l2:w.heap.size+1<W.heap.size:=(gD.1 h2).1;have e1:=(hG.block _ l1 (λe=>by cases e;omega)).trans h1;have e2:=(hG.block _ l2 (λe=>by cases e;omega)).trans h2;exact⟨by rw[cell_of_row W' _ 0 _ _ (0,0) e1];rfl,by rw[cell_of_row W' _ 0 _ _ (0,0) e2];rfl,frozen_of_row W' _ 0 _ _ e2⟩
def Jm (w w':aw)(gh:Nat)(e:Ending)(er:Nat)(y:NS)(out:aO):Prop:=
 ∃v q,e= .returned (.tuple #[v,.int .i64 (er:Int)])∧w.grownBy w' (some gh)∧ju w' gh y∧w'.ownsRow w.heap.size 5 1 v q ((if er=0 then out else[]).map bv)
def Md (w w':aw)(gh:Nat)(x:NS)(e:Ending)(er nx:Nat)(M:MS)(own once other seen out:aO):Prop:=
 ∃v q,e= .returned (.tuple #[v,.int .i64 (er:Int)])∧w.grownBy w' (some gh)∧w'.ownsRow w.heap.size 5 1 v q ((if er=0 then out else[]).map bv)∧
  ((er=0∧iI w' gh 64 [.int .i64 (nx:Int)] M own once other seen)∨(er≠0∧ju w' gh x.gI))
theorem rW (gh:Nat)(x:NS)(due:Nat)(fv:Value)(w:aw)(hH:ju w gh x)(hc:x.code≠due):
  Calls prog 27 #[.pointer (some ⟨gh,0,none⟩),.int .i64 (due:Int),fv] w λe w'=>e= .returned (.tuple #[.slice none 0 0,.int .i64 10])∧w.grownBy w' (some gh)∧ju w' gh x.gI:=by
 obtain⟨seen,hS⟩:=hH;have oa:=hS.sd.lt;have HS:=aj hS;have gC:=aj (Ew w gh);have Z':¬(x.code:Int)=(due:Int):=by omega
 have Sy:∀(fn:Fn) (first cap:Array Value) (w:aw),(Instr.makeFunc fn first cap).run prog w= .ok (.func fn first cap) w:=λ_ _ _ _=>rfl;clear hS hc
 go_enter_defers func27,ntmps27
 refine wp_seq (wp_cut (λa W=>a={tmps:=#[.pointer (some ⟨gh,0,none⟩),.int .i64 (due:Int),fv,.pointer (some ⟨w.heap.size,0,none⟩),ag,ag,.slice none 0 0,.pointer (some ⟨w.heap.size+1,0,none⟩),ag,ag,ag,ag,ag,ag,ag,ag,ag,ag,ag,ag,ag,ag,ag,ag,ag,ag,ag,ag,ag,ag,ag,ag,ag],defers:=[]}∧ae (Vw w W (H6 w gh 0))) ?_ ?_)
 ·go_wp2
  all_goals first|exact gC|exact⟨rfl,gC⟩|exact⟨rfl,rfl,gC⟩
 ·rintro a W0 ⟨rfl,HV⟩;simp only[Exit.then];obtain⟨q1,f1⟩:=uQ HV.o;obtain⟨q2,f2⟩:=Ex HV.o;have ja:=HS.o.sd.later HV.o.aY;have q3:=ja.next;have f3:=ja.frozen 226;have HF:=aj (HS.o.fail (sI HV.o 10).aY);have vR:ae (((W0.setCell ⟨w.heap.size+1,0,none⟩ (.int .i64 10)).setCell ⟨gh,226,none⟩ (.int .i64 0)).cell? ⟨w.heap.size+1,0,none⟩=some (.int .i64 10)):=(oC (sI HV.o 10) (bI.setCell _ gh 226 _) oa).2.1;clear ja gC
  go_wp2
  refine leaves_cons (f:=55) (args:=#[.pointer (some ⟨w.heap.size+1,0,none⟩),.pointer (some ⟨w.heap.size,0,none⟩)]) (by simp) (by simp[go_sem]) ?_;refine(tI (w.heap.size+1) w.heap.size gh 10 [] W0 q2 f2 q1 (by omega) (by omega) (x.code:Int) q3 f3).mono ?_;rintro e u' RI ⟨rfl,rfl,rfl⟩;have jM:=vR.o;have hh:=HF.o;have hII:(Int.ofNat 10)=(10:Int):=rfl;obtain⟨Z,hZ⟩:=aW ((W0.setCell ⟨w.heap.size+1,0,none⟩ (.int .i64 10)).setCell ⟨gh,226,none⟩ (.int .i64 0));rw[hZ] at jM hh;have hZ':(W0.setCell ⟨w.heap.size+1,0,none⟩ (.int .i64 ((10:Nat):Int))).setCell ⟨gh,226,none⟩ (.int .i64 0)=Z:=hZ;rw[hZ'];clear hZ hZ' HF vR HV q1 q2 q3 f1 f2 f3;simp[Leaves,settle,results,Tryz.results27,go_sem,jM];exact⟨hh.2,hh.1⟩
theorem z8 (m:MS)(u b:aO):((m.key u).opened b).n≤100:=by show ri _ true 0 _ b≤100;unfold ri;rw[if_neg (by decide),if_neg (by decide)];split<;>omega
theorem oK {Z:aw}{p:Nat}{v u:Value}(h:Z.cell? ⟨p,0,none⟩=some u):(Z.setCell ⟨p,0,none⟩ v).cell? ⟨p,0,none⟩=some v:=by simp[go_sem,h]
theorem Ls (gh pb:Nat)(x:NS)(seen:aO)(c:bW)(lc cc:Nat)(b:aO)(w:aw)(hH:HaS w gh x seen)(hd:x.code=1)(hp:w.heap[pb]?=some (.cells #[.slice c lc cc] 22 (0,0)))(hB:bj w c lc b)(kX:c=none→cc=0)(ig:lc≤800)(kZ:lc≤cc)(gB:cc≤maxLen)(Az:0<lc→∀y o f,c=some ⟨y,o,f⟩→y<w.heap.size)(hT:TT w)(hg:E7 gh):
  Calls prog 27 #[.pointer (some ⟨gh,0,none⟩),.int .i64 1,.func (.func 28) #[] #[.pointer (some ⟨pb,0,none⟩)]] w λe w'=>Md w w' gh x e (fE x) 2 ((NS.f2 x).d9 b) x.own x.once x.S seen (NS.dV x b):=by
 have oa:=hH.sd.lt;have tN:pb<w.heap.size:=(gD.1 hp).1;have HS:=aj hH;have gC:=aj (Ew w gh);have HP:=aj hp;have HB:=aj hB;have HT:=aj hT;have HG:=aj hg;have Ir:=aj Az;have Z':(x.code:Int)=1:=by omega
 have Sy:∀(fn:Fn) (first cap:Array Value) (w:aw),(Instr.makeFunc fn first cap).run prog w= .ok (.func fn first cap) w:=λ_ _ _ _=>rfl;clear hH hp hB hT hg Az
 go_enter_defers func27,ntmps27
 refine wp_seq (wp_cut (λa W=>a={tmps:=#[.pointer (some ⟨gh,0,none⟩),.int .i64 1,.func (.func 28) #[] #[.pointer (some ⟨pb,0,none⟩)],.pointer (some ⟨w.heap.size,0,none⟩),ag,ag,.slice none 0 0,.pointer (some ⟨w.heap.size+1,0,none⟩),ag,ag,ag,ag,ag,ag,ag,ag,ag,ag,ag,ag,ag,ag,ag,ag,ag,ag,ag,ag,ag,ag,ag,ag,ag],defers:=[]}∧ae (Vw w W (H6 w gh 0))) ?_ ?_)
 ·go_wp2
  all_goals first|exact gC|exact⟨rfl,gC⟩|exact⟨rfl,rfl,gC⟩
 ·rintro a W0 ⟨rfl,HV⟩;simp only[Exit.then];obtain⟨q1,f1⟩:=uQ HV.o;have ja:=HS.o.sd.later HV.o.aY;have q3:=ja.next;have uo:=aj ja;obtain⟨L,hL⟩:=aW (SV x.M x.own x.once x.S seen);have hlen:L.length=226:=by rw[←hL];exact ja.rB
  have HI:ae ((prog.info? 60).map (·.size)=some L.length):=by show _=_;rw[←hL];exact oJ ja.rB
  have HL:ae (∀j v,L[j]?=some v→W0.cell? ⟨gh,0+j,none⟩=some v):=by rw[←hL];exact ja.Zg
  have fW:∀v∈L,v.oneCell'=true:=by rw[←hL];exact wQ _ _ _ _ _
  have xA:=fi W0 60 L 226 hlen (by kernel_rfl) fW GB.toArray (by simpa using j8);have rV:Below W0.heap.size W0 (W0.alloc (.cells L.toArray 60)):=eF;have nK:=eC W0 (.cells L.toArray 60);obtain⟨X,hX⟩:=aW (W0.alloc (.cells L.toArray 60));rw[hX] at xA rV nK;have hsX:X.heap.size=W0.heap.size+1:=by rw[←hX];simp
  have ve:=HV.o.aY.size;obtain⟨gs,Lt⟩:=aW (W0.heap.size);rw[Lt] at xA nK hsX ve;have VC:Sd X gs x.M x.own x.once x.S seen:=iI.of (by rw[List.append_nil,hL];exact nK) ja.mi.c ja.mi.h ja.mi.k ja.k4;have Ey:Below w.heap.size w X:=HV.o.aY.trans (rV.mono HV.o.aY.size);have sJ:=aj (HV.o.later rV);have xK:=(HV.o.vr.lt (w.heap.size+1,36,[.int .i64 0]) (List.mem_cons_of_mem _ (List.mem_cons_self ..)));have hsw:w.heap.size+1<gs:=by rw[←Lt];exact xK
  have Of:ae (Cl X X gs pb c lc cc b x.M x.own x.once x.S seen):=⟨⟨(Ey.block pb tN).trans HP.o,HB.o.later Ey,kX,kZ,gB,(by omega),(λh0 y o f e=>by have:=Ir.o h0 y o f e;omega),HT.o.later Ey,HT.o.new (by omega),(by omega)⟩,VC,cR _ _⟩;have Og:=aj Ey;have Oh:=ja;clear ja gC Oh VC rV nK fW hX hL HV ve xK Ey HP HB uo Ir
  go_wp2_with (first|(refine cD rfl 60 (.tmp 19) rfl gh 0 rfl L _ ?_ underlying60 rfl HI.o ?_;exact HL.o)|refine jz rfl rfl ?_|fail)
  clear xA q1 f1 q3 HI HL Lt;refine(Lr gs pb x seen c lc cc b X Of.o HS.o.n ig).mono ?_;intro e w5 Ez;have HQ:=aj Ez;clear Ez;have Is:=aj (HS.o.sd.later Og.o)
  rcases HQ.o with⟨h0,v,q,rfl,jG,vB,nF⟩|⟨h0,rfl,jG⟩
  ·clear HQ Of;have iE:Below w.heap.size w w5:=dI Og.o jG (by omega);have nY:=aj iE;have VA:=jG.size;have td:ae (Vw w w5 (H6 w gh 0)):=by
    refine⟨⟨λp hp=>?_,?_⟩,sJ.o.lo,iE⟩
    ·have h1:=sJ.o.cell p hp;have h2:=sJ.o.vr.lt p hp;rw[jG.block p.1 h2 (λe=>by
      have h3:p.1=gs:=by cases e;rfl
      simp only[H6,mg,nj,or_false] at hp
      rcases hp with rfl|rfl
      ·simp at h3;omega
      ·simp at h3;omega)]
     exact h1
    ·exact sJ.o.vr.2
   have VD:=aj (Is.o.but jG (by omega));have tu:=aj nF;obtain⟨L5,EC⟩:∃L,SV ((NS.f2 x).d9 b) x.own x.once x.S seen=L:=⟨_,rfl⟩;have PB:L5.length=226:=by rw[←EC];exact vB.rB
   have wT:w5.heap[gs]?=some (.cells L5.toArray 60 (0,0)):=by have:=vB.row;rw[List.append_nil,EC] at this;exact this
   have Qx:ae ((prog.info? 60).map (·.size)=some L5.toArray.size):=by show _=_;have:=oJ vB.rB;rw[EC] at this;simpa using this
   obtain⟨Y,hY⟩:=aW (w5.drew);have cL:Below w5.heap.size w5 Y:=by rw[←hY];exact gl
   have yV:=aj hY;have Lu:=aj (td.o.later cL);have qZ:=aj (eS wT cL);have VE:=aj (VD.o.later cL);have ED:=aj (cT tu.o (cG cL) (λb' _ e=>by cases e));have Mc:=aj (nY.o.trans (cL.mono nY.o.size));have Oi:gs<Y.heap.size:=(gD.1 qZ.o).1;obtain⟨Y1,t1,Fo,oI⟩:=VE.o.eb ((NS.f2 x).d9 b) x.own x.once x.S seen vB.mi.c vB.mi.h vB.mi.k vB.k4;rw[EC] at t1;have gg:=aj Fo;have mL:=aj oI;have q6:=gg.o.next;have f6:=gg.o.frozen 226;have VF:ae (∀w',bI gh Y w'→w'.cell? ⟨w.heap.size,0,none⟩=some (.pointer (some ⟨gh,0,none⟩))):=λw' hw'=>(oC Lu.o hw' oa).1;have qf:ae (∀w',bI gh Y w'→w'.heap[gs]?=some (.cells L5.toArray 60 (0,0))):=λw' hw'=>(hw'.block gs Oi (λe=>by cases e;omega)).trans qZ.o;have WU:ae (∀w',bI gh Y w'→w.grownBy w' (some gh)):=λw' hw'=>World.grownBy.trans (bI.below gh Mc.o) hw';clear jG vB nF EC wT hY cL Fo oI iE td VD tu nY qZ VE Is sJ
   go_wp2_with fail
   refine ah (G:=bI gh) (by kernel_rfl) (bI.refl gh) (bI.trans gh) (by kernel_rfl) [(0,true),(1,true),(2,true),(3,true),(4,true),(5,true),(6,true),(7,false),(8,true),(9,true),(10,false)] rfl (by kernel_rfl) ?_;intro KK cA;rw[yV.o]
   iterate 2 (refine aa rfl (by rfl) (v:=?_) ?_ ?_;rotate_left;(intro w' hw';have qq:=VF.o w' hw';clear hw';go_simp;with_reducible rfl);go_simp)
   refine aa rfl (by rfl) (v:=.agg L5.toArray) (λw' hw'=>ar 60 _ rfl gs rfl 60 _ (0,0) _ (qf.o w' hw') underlying60 rfl Qx.o) ?_;go_simp
   iterate 4 (refine aa rfl (by rfl) (v:=?_) ?_ ?_;rotate_left;(intro w' hw';clear hw';go_simp;with_reducible rfl);go_simp)
   refine bu rfl (by rfl) (w':=Y1) (by go_simp) mL.o ?_;clear t1;go_simp
   iterate 2 (refine aa rfl (by rfl) (v:=?_) ?_ ?_;rotate_left;(intro w' hw';clear hw';go_simp;with_reducible rfl);go_simp)
   refine bu rfl (by rfl) (w':=Y1.setCell ⟨gh,226,none⟩ (.int .i64 2)) (by go_simp;rfl) (bI.setCell _ gh 226 _) ?_;clear q6 f6;have fH:bI gh Y (Y1.setCell ⟨gh,226,none⟩ (.int .i64 2)):=bI.trans gh _ _ _ mL.o (bI.setCell Y1 gh 226 _);have rq:iI (Y1.setCell ⟨gh,226,none⟩ (.int .i64 2)) gh 64 [.int .i64 ((2:Nat):Int)] ((NS.f2 x).d9 b) x.own x.once x.S seen:=gg.o.zW 2;obtain⟨Z,hZ⟩:=aW (Y1.setCell ⟨gh,226,none⟩ (.int .i64 2));rw[hZ] at fH rq;rw[hZ];obtain⟨_,q7,f7⟩:=oC Lu.o fH oa;have jR:=aj fH;have oE:=aj rq;clear fH rq hZ gg mL VF qf;go_simp
   refine az cA ?_;clear cA
   go_wp2
   have fP:Z.grownBy (Z.setCell ⟨w.heap.size+1,0,none⟩ (.int .i64 0)) (some (w.heap.size+1)):=bI.setCell Z (w.heap.size+1) 0 _;have tr:(Z.setCell ⟨w.heap.size+1,0,none⟩ (.int .i64 0)).cell? ⟨w.heap.size+1,0,none⟩=some (.int .i64 0):=oK q7;have Fs:iI (Z.setCell ⟨w.heap.size+1,0,none⟩ (.int .i64 0)) gh _ _ _ _ _ _ _:=oE.o.but fP (by omega);have DE:=cT (cT ED.o jR.o (λb' cU e=>by have:=(aad ED.o b' cU).1;cases e;omega)) fP (λb' cU e=>by have:=(aad ED.o b' cU).1;cases e;omega);have wm:w.grownBy (Z.setCell ⟨w.heap.size+1,0,none⟩ (.int .i64 0)) (some gh):=by have h1:=WU.o Z jR.o;exact⟨fP.os.trans h1.os,fP.tape.trans h1.tape,fP.output.trans h1.output,kx h1.size fP.size,λk hk eL=>(fP.block k (tV hk h1.size) (λe=>by cases e;omega)).trans (h1.block k hk eL)⟩
   have NC:=bQ DE (show w.heap.size≤X.heap.size by omega);obtain⟨U,hU⟩:=aW (Z.setCell ⟨w.heap.size+1,0,none⟩ (.int .i64 0));rw[hU] at tr Fs NC wm;rw[hU];clear fP DE hU q7 f7 jR oE ED;refine leaves_cons (f:=55) (args:=#[.pointer (some ⟨w.heap.size+1,0,none⟩),.pointer (some ⟨w.heap.size,0,none⟩)]) (by simp) (by simp[go_sem]) ?_;refine(xl (w.heap.size+1) w.heap.size U).mono ?_;rintro e u' RI ⟨rfl,rfl,rfl⟩;simp only[settle,Leaves];refine⟨.tuple #[v,.int .i64 0],?_,?_⟩
   ·simp[results,Tryz.results27,go_sem,tr]
   unfold Md;refine⟨v,q,?_,wm,?_,.inl ⟨h0,Fs⟩⟩
   ·rw[h0];rfl
   ·rw[if_pos h0];exact NC
  ·clear HQ Of;have iE:Below w.heap.size w w5:=dI Og.o jG (by omega);have td:ae (Vw w w5 (H6 w gh 0)):=by
    refine⟨⟨λp hp=>?_,?_⟩,sJ.o.lo,iE⟩
    ·have h1:=sJ.o.cell p hp;have h2:=sJ.o.vr.lt p hp;rw[jG.block p.1 h2 (λe=>by
      have h3:p.1=gs:=by cases e;rfl
      simp only[H6,mg,nj,or_false] at hp
      rcases hp with rfl|rfl
      ·simp at h3;omega
      ·simp at h3;omega)]
     exact h1
    ·exact sJ.o.vr.2
   obtain⟨er,qc⟩:=aW (fE x);rw[qc] at h0⊢;obtain⟨q1,_⟩:=uQ td.o;obtain⟨q2,f2⟩:=Ex td.o;have ja:=Is.o.but jG (by omega);have q3:=ja.next;have f3:=ja.frozen 226;have HF:=aj (HS.o.fail (sI td.o (er:Int)).aY);have vR:ae (((w5.setCell ⟨w.heap.size+1,0,none⟩ (.int .i64 (er:Int))).setCell ⟨gh,226,none⟩ (.int .i64 0)).cell? ⟨w.heap.size+1,0,none⟩=some (.int .i64 (er:Int))):=(oC (sI td.o (er:Int)) (bI.setCell _ gh 226 _) oa).2.1;have HE:=aj (And.intro qc h0);clear ja jG iE sJ Is td qc h0
   go_wp2_with fail
   refine leaves_cons (f:=55) (args:=#[.pointer (some ⟨w.heap.size+1,0,none⟩),.pointer (some ⟨w.heap.size,0,none⟩)]) (by simp) (by simp[go_sem]) ?_;refine(tI (w.heap.size+1) w.heap.size gh er [] w5 q2 f2 q1 (by omega) (by omega) (x.code:Int) q3 f3).mono ?_;rintro e u' RI ⟨rfl,rfl,rfl⟩;have jM:=vR.o;have hh:=HF.o;obtain⟨Z,hZ⟩:=aW ((w5.setCell ⟨w.heap.size+1,0,none⟩ (.int .i64 (er:Int))).setCell ⟨gh,226,none⟩ (.int .i64 0));rw[hZ] at jM hh;rw[hZ];clear hZ HF vR q1 q2 q3 f2 f3;simp only[settle,Leaves,List.dropWhile_nil];refine⟨.tuple #[.slice none 0 0,.int .i64 (er:Int)],?_,?_⟩
   ·simp[results,Tryz.results27,go_sem,jM]
   unfold Md;rw[HE.o.1];refine⟨.slice none 0 0,0,?_,hh.2,?_,.inr ⟨HE.o.2,hh.1⟩⟩
   ·rfl
   ·rw[if_neg HE.o.2];exact⟨rfl,.inl ⟨rfl,rfl⟩⟩
theorem yH (gh:Nat)(x:NS)(c:bW)(lc cc:Nat)(b:aO)(w:aw)(hH:ju w gh x)(hB:bj w c lc b)(kX:c=none→cc=0)(ig:lc≤800)(kZ:lc≤cc)(gB:cc≤maxLen)(Az:0<lc→∀y o f,c=some ⟨y,o,f⟩→y<w.heap.size)(hT:TT w)(hg:E7 gh):
  Calls prog 10 #[.pointer (some ⟨gh,0,none⟩),.slice c lc cc] w λe w'=>Jm w w' gh e (NS.dv x) (NS.first x b) (NS.dV x b):=by
 have oa:=hH.lt;have HH:=aj hH;have HB:=aj hB;have HT:=aj hT;have HG:=aj hg;have Ir:=aj Az;have Sy:∀(fn:Fn) (first cap:Array Value) (w:aw),(Instr.makeFunc fn first cap).run prog w= .ok (.func fn first cap) w:=λ_ _ _ _=>rfl;have ck:Below w.heap.size w (w.alloc (.cells #[.slice c lc cc] 22)):=eF;have bh:=eC w (.cells #[.slice c lc cc] 22);have iG:ae (∀w',w'=w.alloc (.cells #[.slice c lc cc] 22)→Below w.heap.size w w'∧w'.heap[w.heap.size]?=some (.cells #[.slice c lc cc] 22 (0,0))):=λw' e=>by rw[e];exact⟨ck,bh⟩
 clear hH hB hT hg Az ck bh
 go_enter func10,ntmps10
 go_wp2_with fail
 obtain⟨W,hW⟩:=aW (w.alloc (.cells #[.slice c lc cc] 22));obtain⟨ck,bh⟩:=iG.o W hW.symm;have HW:=aj ck;have HR:=aj bh;rw[hW];clear hW ck bh iG Sy
 by_cases hs:x.bP=true∧x.st=0
 ·obtain⟨seen,Cy⟩:=HH.o.later HW.o;have gY:x.code=1:=by unfold NS.code;rw[hs.1,hs.2];rfl
  have hE:NS.dv x=fE x:=by unfold NS.dv;rw[if_pos hs];rfl
  have hn:=Cy.n;have HE:=aj hE;have HS:=aj hs;refine(Ls gh w.heap.size x seen c lc cc b W Cy gY HR.o (HB.o.later HW.o) kX ig kZ gB (λh0 y o f e=>tV (Ir.o h0 y o f e) HW.o.size) (HT.o.later HW.o) HG.o).mono ?_;intro e w2 Gf;unfold Md at Gf;obtain⟨v,q,rfl,fH,cZ,yN⟩:=Gf;have jR:ae (w.grownBy w2 (some gh)):=World.grownBy.trans (bI.below gh HW.o) fH;have nW:=aj (bQ cZ HW.o.size);have uy:ae (ju w2 gh (NS.first x b)):=by
   show ju _ _ _;unfold NS.first;rw[hE]
   rcases yN with⟨h0,rq⟩|⟨h0,rq⟩
   ·rw[if_pos h0];exact⟨_,⟨by show iI _ _ _ [.int .i64 ((NS.code _:Nat):Int)] _ _ _ _ _;rw[show NS.code _=2 by unfold NS.code;rw[hs.1];rfl];exact rq,.inr (.inl rfl),(λh=>absurd (hs.1.symm.trans h) (by decide)),kx (Nat.le_of_eq (MS.JJ _ _ _)) (by omega)⟩⟩
   ·rw[if_neg h0];exact rq
  clear fH cZ yN hE hs gY Cy;obtain⟨er,qc⟩:=aW (fE x);rw[qc] at HE nW;rw[qc];clear qc
  go_wp2_with fail
  go_ret2
  unfold Jm;refine⟨v,q,?_,jR.o,uy.o,?_⟩
  ·exact congrArg (λk:Nat=>Ending.returned (.tuple #[v,.int .i64 (k:Int)])) HE.o.symm
  ·rw[HE.o];exact nW.o
 ·have hE:NS.dv x=10:=by unfold NS.dv;rw[if_neg hs]
  have xA:NS.first x b=x.gI:=by unfold NS.first;rw[hE];rfl
  have gY:x.code≠1:=by obtain⟨seen,Cy⟩:=HH.o;have h1:=Cy.st;unfold NS.code;cases hx:x.bP<;>rw[hx] at hs<;>simp at hs⊢<;>(try split)<;>omega
  have HE:=aj (And.intro hE xA);clear hE xA hs;refine(rW gh x 1 _ W (HH.o.later HW.o) gY).mono ?_;rintro e w2 ⟨rfl,fH,tq⟩;have jR:ae (w.grownBy w2 (some gh)):=World.grownBy.trans (bI.below gh HW.o) fH;have uy:=aj tq;clear fH tq gY
  go_wp2_with fail
  go_ret2
  unfold Jm;rw[HE.o.1,HE.o.2];exact⟨.slice none 0 0,0,rfl,jR.o,uy.o,⟨rfl,.inl ⟨rfl,rfl⟩⟩⟩
theorem Oj (gh pb:Nat)(x:NS)(seen:aO)(c:bW)(lc cc:Nat)(b:aO)(w:aw)(hH:HaS w gh x seen)(hd:x.code=4)(hp:w.heap[pb]?=some (.cells #[.slice c lc cc] 22 (0,0)))(hB:bj w c lc b)(kX:c=none→cc=0)(ig:lc≤900)(kZ:lc≤cc)(gB:cc≤maxLen)(Az:0<lc→∀y o f,c=some ⟨y,o,f⟩→y<w.heap.size)(hT:TT w)(hg:E7 gh):
  Calls prog 27 #[.pointer (some ⟨gh,0,none⟩),.int .i64 4,.func (.func 35) #[] #[.pointer (some ⟨pb,0,none⟩)]] w λe w'=>Md w w' gh x e (hE x b) 5 ((NS.h2 x b).opened (b.drop 80)) x.own x.once (NS.hS x b) (NS.hR b) (NS.jI x b):=by
 have oa:=hH.sd.lt;have tN:pb<w.heap.size:=(gD.1 hp).1;have HS:=aj hH;have gC:=aj (Ew w gh);have HP:=aj hp;have HB:=aj hB;have HT:=aj hT;have HG:=aj hg;have Ir:=aj Az;have Z':(x.code:Int)=4:=by omega
 have Sy:∀(fn:Fn) (first cap:Array Value) (w:aw),(Instr.makeFunc fn first cap).run prog w= .ok (.func fn first cap) w:=λ_ _ _ _=>rfl;clear hH hp hB hT hg Az
 go_enter_defers func27,ntmps27
 refine wp_seq (wp_cut (λa W=>a={tmps:=#[.pointer (some ⟨gh,0,none⟩),.int .i64 4,.func (.func 35) #[] #[.pointer (some ⟨pb,0,none⟩)],.pointer (some ⟨w.heap.size,0,none⟩),ag,ag,.slice none 0 0,.pointer (some ⟨w.heap.size+1,0,none⟩),ag,ag,ag,ag,ag,ag,ag,ag,ag,ag,ag,ag,ag,ag,ag,ag,ag,ag,ag,ag,ag,ag,ag,ag,ag],defers:=[]}∧ae (Vw w W (H6 w gh 0))) ?_ ?_)
 ·go_wp2
  all_goals first|exact gC|exact⟨rfl,gC⟩|exact⟨rfl,rfl,gC⟩
 ·rintro a W0 ⟨rfl,HV⟩;simp only[Exit.then];obtain⟨q1,f1⟩:=uQ HV.o;have ja:=HS.o.sd.later HV.o.aY;have q3:=ja.next;have uo:=aj ja;obtain⟨L,hL⟩:=aW (SV x.M x.own x.once x.S seen);have hlen:L.length=226:=by rw[←hL];exact ja.rB
  have HI:ae ((prog.info? 60).map (·.size)=some L.length):=by show _=_;rw[←hL];exact oJ ja.rB
  have HL:ae (∀j v,L[j]?=some v→W0.cell? ⟨gh,0+j,none⟩=some v):=by rw[←hL];exact ja.Zg
  have fW:∀v∈L,v.oneCell'=true:=by rw[←hL];exact wQ _ _ _ _ _
  have xA:=fi W0 60 L 226 hlen (by kernel_rfl) fW GB.toArray (by simpa using j8);have rV:Below W0.heap.size W0 (W0.alloc (.cells L.toArray 60)):=eF;have nK:=eC W0 (.cells L.toArray 60);obtain⟨X,hX⟩:=aW (W0.alloc (.cells L.toArray 60));rw[hX] at xA rV nK;have hsX:X.heap.size=W0.heap.size+1:=by rw[←hX];simp
  have ve:=HV.o.aY.size;obtain⟨gs,Lt⟩:=aW (W0.heap.size);rw[Lt] at xA nK hsX ve;have VC:Sd X gs x.M x.own x.once x.S seen:=iI.of (by rw[List.append_nil,hL];exact nK) ja.mi.c ja.mi.h ja.mi.k ja.k4;have Ey:Below w.heap.size w X:=HV.o.aY.trans (rV.mono HV.o.aY.size);have sJ:=aj (HV.o.later rV);have xK:=(HV.o.vr.lt (w.heap.size+1,36,[.int .i64 0]) (List.mem_cons_of_mem _ (List.mem_cons_self ..)));have hsw:w.heap.size+1<gs:=by rw[←Lt];exact xK
  have Of:ae (Cl X X gs pb c lc cc b x.M x.own x.once x.S seen):=⟨⟨(Ey.block pb tN).trans HP.o,HB.o.later Ey,kX,kZ,gB,(by omega),(λh0 y o f e=>by have:=Ir.o h0 y o f e;omega),HT.o.later Ey,HT.o.new (by omega),(by omega)⟩,VC,cR _ _⟩;have Og:=aj Ey;have Oh:=ja;clear ja gC Oh VC rV nK fW hX hL HV ve xK Ey HP HB uo Ir
  go_wp2_with (first|(refine cD rfl 60 (.tmp 19) rfl gh 0 rfl L _ ?_ underlying60 rfl HI.o ?_;exact HL.o)|refine jz rfl rfl ?_|fail)
  clear xA q1 f1 q3 HI HL Lt;refine(Od gs pb x seen c lc cc b X Of.o HS.o.n ig).mono ?_;intro e w5 Ez;have HQ:=aj Ez;clear Ez;have Is:=aj (HS.o.sd.later Og.o)
  rcases HQ.o with⟨h0,v,q,rfl,jG,vB,nF⟩|⟨h0,rfl,jG⟩
  ·clear HQ Of;have iE:Below w.heap.size w w5:=dI Og.o jG (by omega);have nY:=aj iE;have VA:=jG.size;have td:ae (Vw w w5 (H6 w gh 0)):=by
    refine⟨⟨λp hp=>?_,?_⟩,sJ.o.lo,iE⟩
    ·have h1:=sJ.o.cell p hp;have h2:=sJ.o.vr.lt p hp;rw[jG.block p.1 h2 (λe=>by
      have h3:p.1=gs:=by cases e;rfl
      simp only[H6,mg,nj,or_false] at hp
      rcases hp with rfl|rfl
      ·simp at h3;omega
      ·simp at h3;omega)]
     exact h1
    ·exact sJ.o.vr.2
   have VD:=aj (Is.o.but jG (by omega));have tu:=aj nF;obtain⟨L5,EC⟩:∃L,SV ((NS.h2 x b).opened (b.drop 80)) x.own x.once (NS.hS x b) (NS.hR b)=L:=⟨_,rfl⟩;have PB:L5.length=226:=by rw[←EC];exact vB.rB
   have wT:w5.heap[gs]?=some (.cells L5.toArray 60 (0,0)):=by have:=vB.row;rw[List.append_nil,EC] at this;exact this
   have Qx:ae ((prog.info? 60).map (·.size)=some L5.toArray.size):=by show _=_;have:=oJ vB.rB;rw[EC] at this;simpa using this
   obtain⟨Y,hY⟩:=aW (w5.drew);have cL:Below w5.heap.size w5 Y:=by rw[←hY];exact gl
   have yV:=aj hY;have Lu:=aj (td.o.later cL);have qZ:=aj (eS wT cL);have VE:=aj (VD.o.later cL);have ED:=aj (cT tu.o (cG cL) (λb' _ e=>by cases e));have Mc:=aj (nY.o.trans (cL.mono nY.o.size));have Oi:gs<Y.heap.size:=(gD.1 qZ.o).1;obtain⟨Y1,t1,Fo,oI⟩:=VE.o.eb ((NS.h2 x b).opened (b.drop 80)) x.own x.once (NS.hS x b) (NS.hR b) vB.mi.c vB.mi.h vB.mi.k vB.k4;rw[EC] at t1;have gg:=aj Fo;have mL:=aj oI;have q6:=gg.o.next;have f6:=gg.o.frozen 226;have VF:ae (∀w',bI gh Y w'→w'.cell? ⟨w.heap.size,0,none⟩=some (.pointer (some ⟨gh,0,none⟩))):=λw' hw'=>(oC Lu.o hw' oa).1;have qf:ae (∀w',bI gh Y w'→w'.heap[gs]?=some (.cells L5.toArray 60 (0,0))):=λw' hw'=>(hw'.block gs Oi (λe=>by cases e;omega)).trans qZ.o;have WU:ae (∀w',bI gh Y w'→w.grownBy w' (some gh)):=λw' hw'=>World.grownBy.trans (bI.below gh Mc.o) hw';clear jG vB nF EC wT hY cL Fo oI iE td VD tu nY qZ VE Is sJ
   go_wp2_with fail
   refine ah (G:=bI gh) (by kernel_rfl) (bI.refl gh) (bI.trans gh) (by kernel_rfl) [(0,true),(1,true),(2,true),(3,true),(4,true),(5,true),(6,true),(7,false),(8,true),(9,true),(10,false)] rfl (by kernel_rfl) ?_;intro KK cA;rw[yV.o]
   iterate 2 (refine aa rfl (by rfl) (v:=?_) ?_ ?_;rotate_left;(intro w' hw';have qq:=VF.o w' hw';clear hw';go_simp;with_reducible rfl);go_simp)
   refine aa rfl (by rfl) (v:=.agg L5.toArray) (λw' hw'=>ar 60 _ rfl gs rfl 60 _ (0,0) _ (qf.o w' hw') underlying60 rfl Qx.o) ?_;go_simp
   iterate 4 (refine aa rfl (by rfl) (v:=?_) ?_ ?_;rotate_left;(intro w' hw';clear hw';go_simp;with_reducible rfl);go_simp)
   refine bu rfl (by rfl) (w':=Y1) (by go_simp) mL.o ?_;clear t1;go_simp
   iterate 2 (refine aa rfl (by rfl) (v:=?_) ?_ ?_;rotate_left;(intro w' hw';clear hw';go_simp;with_reducible rfl);go_simp)
   refine bu rfl (by rfl) (w':=Y1.setCell ⟨gh,226,none⟩ (.int .i64 5)) (by go_simp;rfl) (bI.setCell _ gh 226 _) ?_;clear q6 f6;have fH:bI gh Y (Y1.setCell ⟨gh,226,none⟩ (.int .i64 5)):=bI.trans gh _ _ _ mL.o (bI.setCell Y1 gh 226 _);have rq:iI (Y1.setCell ⟨gh,226,none⟩ (.int .i64 5)) gh 64 [.int .i64 ((5:Nat):Int)] ((NS.h2 x b).opened (b.drop 80)) x.own x.once (NS.hS x b) (NS.hR b):=gg.o.zW 5;obtain⟨Z,hZ⟩:=aW (Y1.setCell ⟨gh,226,none⟩ (.int .i64 5));rw[hZ] at fH rq;rw[hZ];obtain⟨_,q7,f7⟩:=oC Lu.o fH oa;have jR:=aj fH;have oE:=aj rq;clear fH rq hZ gg mL VF qf;go_simp
   refine az cA ?_;clear cA
   go_wp2
   have fP:Z.grownBy (Z.setCell ⟨w.heap.size+1,0,none⟩ (.int .i64 0)) (some (w.heap.size+1)):=bI.setCell Z (w.heap.size+1) 0 _;have tr:(Z.setCell ⟨w.heap.size+1,0,none⟩ (.int .i64 0)).cell? ⟨w.heap.size+1,0,none⟩=some (.int .i64 0):=oK q7;have Fs:iI (Z.setCell ⟨w.heap.size+1,0,none⟩ (.int .i64 0)) gh _ _ _ _ _ _ _:=oE.o.but fP (by omega);have DE:=cT (cT ED.o jR.o (λb' cU e=>by have:=(aad ED.o b' cU).1;cases e;omega)) fP (λb' cU e=>by have:=(aad ED.o b' cU).1;cases e;omega);have wm:w.grownBy (Z.setCell ⟨w.heap.size+1,0,none⟩ (.int .i64 0)) (some gh):=by have h1:=WU.o Z jR.o;exact⟨fP.os.trans h1.os,fP.tape.trans h1.tape,fP.output.trans h1.output,kx h1.size fP.size,λk hk eL=>(fP.block k (tV hk h1.size) (λe=>by cases e;omega)).trans (h1.block k hk eL)⟩
   have NC:=bQ DE (show w.heap.size≤X.heap.size by omega);obtain⟨U,hU⟩:=aW (Z.setCell ⟨w.heap.size+1,0,none⟩ (.int .i64 0));rw[hU] at tr Fs NC wm;rw[hU];clear fP DE hU q7 f7 jR oE ED;refine leaves_cons (f:=55) (args:=#[.pointer (some ⟨w.heap.size+1,0,none⟩),.pointer (some ⟨w.heap.size,0,none⟩)]) (by simp) (by simp[go_sem]) ?_;refine(xl (w.heap.size+1) w.heap.size U).mono ?_;rintro e u' RI ⟨rfl,rfl,rfl⟩;simp only[settle,Leaves];refine⟨.tuple #[v,.int .i64 0],?_,?_⟩
   ·simp[results,Tryz.results27,go_sem,tr]
   unfold Md;refine⟨v,q,?_,wm,?_,.inl ⟨h0,Fs⟩⟩
   ·rw[h0];rfl
   ·rw[if_pos h0];exact NC
  ·clear HQ Of;have iE:Below w.heap.size w w5:=dI Og.o jG (by omega);have td:ae (Vw w w5 (H6 w gh 0)):=by
    refine⟨⟨λp hp=>?_,?_⟩,sJ.o.lo,iE⟩
    ·have h1:=sJ.o.cell p hp;have h2:=sJ.o.vr.lt p hp;rw[jG.block p.1 h2 (λe=>by
      have h3:p.1=gs:=by cases e;rfl
      simp only[H6,mg,nj,or_false] at hp
      rcases hp with rfl|rfl
      ·simp at h3;omega
      ·simp at h3;omega)]
     exact h1
    ·exact sJ.o.vr.2
   obtain⟨er,qc⟩:=aW (hE x b);rw[qc] at h0⊢;obtain⟨q1,_⟩:=uQ td.o;obtain⟨q2,f2⟩:=Ex td.o;have ja:=Is.o.but jG (by omega);have q3:=ja.next;have f3:=ja.frozen 226;have HF:=aj (HS.o.fail (sI td.o (er:Int)).aY);have vR:ae (((w5.setCell ⟨w.heap.size+1,0,none⟩ (.int .i64 (er:Int))).setCell ⟨gh,226,none⟩ (.int .i64 0)).cell? ⟨w.heap.size+1,0,none⟩=some (.int .i64 (er:Int))):=(oC (sI td.o (er:Int)) (bI.setCell _ gh 226 _) oa).2.1;have HE:=aj (And.intro qc h0);clear ja jG iE sJ Is td qc h0
   go_wp2_with fail
   refine leaves_cons (f:=55) (args:=#[.pointer (some ⟨w.heap.size+1,0,none⟩),.pointer (some ⟨w.heap.size,0,none⟩)]) (by simp) (by simp[go_sem]) ?_;refine(tI (w.heap.size+1) w.heap.size gh er [] w5 q2 f2 q1 (by omega) (by omega) (x.code:Int) q3 f3).mono ?_;rintro e u' RI ⟨rfl,rfl,rfl⟩;have jM:=vR.o;have hh:=HF.o;obtain⟨Z,hZ⟩:=aW ((w5.setCell ⟨w.heap.size+1,0,none⟩ (.int .i64 (er:Int))).setCell ⟨gh,226,none⟩ (.int .i64 0));rw[hZ] at jM hh;rw[hZ];clear hZ HF vR q1 q2 q3 f2 f3;simp only[settle,Leaves,List.dropWhile_nil];refine⟨.tuple #[.slice none 0 0,.int .i64 (er:Int)],?_,?_⟩
   ·simp[results,Tryz.results27,go_sem,jM]
   unfold Md;rw[HE.o.1];refine⟨.slice none 0 0,0,?_,hh.2,?_,.inr ⟨HE.o.2,hh.1⟩⟩
   ·rfl
   ·rw[if_neg HE.o.2];exact⟨rfl,.inl ⟨rfl,rfl⟩⟩
theorem GD (gh:Nat)(x:NS)(c:bW)(lc cc:Nat)(b:aO)(w:aw)(hH:ju w gh x)(hB:bj w c lc b)(kX:c=none→cc=0)(ig:lc≤900)(kZ:lc≤cc)(gB:cc≤maxLen)(Az:0<lc→∀y o f,c=some ⟨y,o,f⟩→y<w.heap.size)(hT:TT w)(hg:E7 gh):
  Calls prog 12 #[.pointer (some ⟨gh,0,none⟩),.slice c lc cc] w λe w'=>Jm w w' gh e (NS.dD x b) (NS.mh x b) (NS.jI x b):=by
 have oa:=hH.lt;have HH:=aj hH;have HB:=aj hB;have HT:=aj hT;have HG:=aj hg;have Ir:=aj Az;have Sy:∀(fn:Fn) (first cap:Array Value) (w:aw),(Instr.makeFunc fn first cap).run prog w= .ok (.func fn first cap) w:=λ_ _ _ _=>rfl;have ck:Below w.heap.size w (w.alloc (.cells #[.slice c lc cc] 22)):=eF;have bh:=eC w (.cells #[.slice c lc cc] 22);have iG:ae (∀w',w'=w.alloc (.cells #[.slice c lc cc] 22)→Below w.heap.size w w'∧w'.heap[w.heap.size]?=some (.cells #[.slice c lc cc] 22 (0,0))):=λw' e=>by rw[e];exact⟨ck,bh⟩
 clear hH hB hT hg Az ck bh
 go_enter func12,ntmps12
 go_wp2_with fail
 obtain⟨W,hW⟩:=aW (w.alloc (.cells #[.slice c lc cc] 22));obtain⟨ck,bh⟩:=iG.o W hW.symm;have HW:=aj ck;have HR:=aj bh;rw[hW];clear hW ck bh iG Sy
 by_cases hs:x.bP=false∧x.st=0
 ·obtain⟨seen,Cy⟩:=HH.o.later HW.o;have gY:x.code=4:=by unfold NS.code;rw[hs.1,hs.2];rfl
  have hE:NS.dD x b=hE x b:=by unfold NS.dD;rw[if_pos hs];rfl
  have hn:=Cy.n;have HE:=aj hE;have HS:=aj hs;refine(Oj gh w.heap.size x seen c lc cc b W Cy gY HR.o (HB.o.later HW.o) kX ig kZ gB (λh0 y o f e=>tV (Ir.o h0 y o f e) HW.o.size) (HT.o.later HW.o) HG.o).mono ?_;intro e w2 Gf;unfold Md at Gf;obtain⟨v,q,rfl,fH,cZ,yN⟩:=Gf;have jR:ae (w.grownBy w2 (some gh)):=World.grownBy.trans (bI.below gh HW.o) fH;have nW:=aj (bQ cZ HW.o.size);have uy:ae (ju w2 gh (NS.mh x b)):=by
   show ju _ _ _;unfold NS.mh;rw[hE]
   rcases yN with⟨h0,rq⟩|⟨h0,rq⟩
   ·rw[if_pos h0];exact⟨_,⟨by show iI _ _ _ [.int .i64 ((NS.code _:Nat):Int)] _ _ _ _ _;rw[show NS.code _=5 by unfold NS.code;rw[hs.1];rfl];exact rq,.inr (.inl rfl),(λ_ _=>rfl),z8 _ _ _⟩⟩
   ·rw[if_neg h0];exact rq
  clear fH cZ yN hE hs gY Cy;obtain⟨er,qc⟩:=aW (hE x b);rw[qc] at HE nW;rw[qc];clear qc
  go_wp2_with fail
  go_ret2
  unfold Jm;refine⟨v,q,?_,jR.o,uy.o,?_⟩
  ·exact congrArg (λk:Nat=>Ending.returned (.tuple #[v,.int .i64 (k:Int)])) HE.o.symm
  ·rw[HE.o];exact nW.o
 ·have hE:NS.dD x b=10:=by unfold NS.dD;rw[if_neg hs]
  have xA:NS.mh x b=x.gI:=by unfold NS.mh;rw[hE];rfl
  have gY:x.code≠4:=by obtain⟨seen,Cy⟩:=HH.o;have h1:=Cy.st;unfold NS.code;cases hx:x.bP<;>rw[hx] at hs<;>simp at hs⊢<;>(try split)<;>omega
  have HE:=aj (And.intro hE xA);clear hE xA hs;refine(rW gh x 4 _ W (HH.o.later HW.o) gY).mono ?_;rintro e w2 ⟨rfl,fH,tq⟩;have jR:ae (w.grownBy w2 (some gh)):=World.grownBy.trans (bI.below gh HW.o) fH;have uy:=aj tq;clear fH tq gY
  go_wp2_with fail
  go_ret2
  unfold Jm;rw[HE.o.1,HE.o.2];exact⟨.slice none 0 0,0,rfl,jR.o,uy.o,⟨rfl,.inl ⟨rfl,rfl⟩⟩⟩
theorem It (gh pb:Nat)(x:NS)(seen:aO)(c:bW)(lc cc:Nat)(b:aO)(w:aw)(hH:HaS w gh x seen)(hd:x.code=5)(yT:seen=x.R)(hp:w.heap[pb]?=some (.cells #[.slice c lc cc] 22 (0,0)))(hB:bj w c lc b)(kX:c=none→cc=0)(ig:lc≤800)(kZ:lc≤cc)(gB:cc≤maxLen)(Az:0<lc→∀y o f,c=some ⟨y,o,f⟩→y<w.heap.size)(hT:TT w)(hg:E7 gh):
  Calls prog 27 #[.pointer (some ⟨gh,0,none⟩),.int .i64 5,.func (.func 39) #[] #[.pointer (some ⟨pb,0,none⟩)]] w λe w'=>Md w w' gh x e (sE x) 6 ((NS.s1 x).d9 b) x.own x.once x.S seen (NS.dm x b):=by
 have oa:=hH.sd.lt;have tN:pb<w.heap.size:=(gD.1 hp).1;have HS:=aj hH;have gC:=aj (Ew w gh);have HP:=aj hp;have HB:=aj hB;have HT:=aj hT;have HG:=aj hg;have Ir:=aj Az;have Z':(x.code:Int)=5:=by omega
 have Sy:∀(fn:Fn) (first cap:Array Value) (w:aw),(Instr.makeFunc fn first cap).run prog w= .ok (.func fn first cap) w:=λ_ _ _ _=>rfl;clear hH hp hB hT hg Az
 go_enter_defers func27,ntmps27
 refine wp_seq (wp_cut (λa W=>a={tmps:=#[.pointer (some ⟨gh,0,none⟩),.int .i64 5,.func (.func 39) #[] #[.pointer (some ⟨pb,0,none⟩)],.pointer (some ⟨w.heap.size,0,none⟩),ag,ag,.slice none 0 0,.pointer (some ⟨w.heap.size+1,0,none⟩),ag,ag,ag,ag,ag,ag,ag,ag,ag,ag,ag,ag,ag,ag,ag,ag,ag,ag,ag,ag,ag,ag,ag,ag,ag],defers:=[]}∧ae (Vw w W (H6 w gh 0))) ?_ ?_)
 ·go_wp2
  all_goals first|exact gC|exact⟨rfl,gC⟩|exact⟨rfl,rfl,gC⟩
 ·rintro a W0 ⟨rfl,HV⟩;simp only[Exit.then];obtain⟨q1,f1⟩:=uQ HV.o;have ja:=HS.o.sd.later HV.o.aY;have q3:=ja.next;have uo:=aj ja;obtain⟨L,hL⟩:=aW (SV x.M x.own x.once x.S seen);have hlen:L.length=226:=by rw[←hL];exact ja.rB
  have HI:ae ((prog.info? 60).map (·.size)=some L.length):=by show _=_;rw[←hL];exact oJ ja.rB
  have HL:ae (∀j v,L[j]?=some v→W0.cell? ⟨gh,0+j,none⟩=some v):=by rw[←hL];exact ja.Zg
  have fW:∀v∈L,v.oneCell'=true:=by rw[←hL];exact wQ _ _ _ _ _
  have xA:=fi W0 60 L 226 hlen (by kernel_rfl) fW GB.toArray (by simpa using j8);have rV:Below W0.heap.size W0 (W0.alloc (.cells L.toArray 60)):=eF;have nK:=eC W0 (.cells L.toArray 60);obtain⟨X,hX⟩:=aW (W0.alloc (.cells L.toArray 60));rw[hX] at xA rV nK;have hsX:X.heap.size=W0.heap.size+1:=by rw[←hX];simp
  have ve:=HV.o.aY.size;obtain⟨gs,Lt⟩:=aW (W0.heap.size);rw[Lt] at xA nK hsX ve;have VC:Sd X gs x.M x.own x.once x.S seen:=iI.of (by rw[List.append_nil,hL];exact nK) ja.mi.c ja.mi.h ja.mi.k ja.k4;have Ey:Below w.heap.size w X:=HV.o.aY.trans (rV.mono HV.o.aY.size);have sJ:=aj (HV.o.later rV);have xK:=(HV.o.vr.lt (w.heap.size+1,36,[.int .i64 0]) (List.mem_cons_of_mem _ (List.mem_cons_self ..)));have hsw:w.heap.size+1<gs:=by rw[←Lt];exact xK
  have Of:ae (Cl X X gs pb c lc cc b x.M x.own x.once x.S seen):=⟨⟨(Ey.block pb tN).trans HP.o,HB.o.later Ey,kX,kZ,gB,(by omega),(λh0 y o f e=>by have:=Ir.o h0 y o f e;omega),HT.o.later Ey,HT.o.new (by omega),(by omega)⟩,VC,cR _ _⟩;have Og:=aj Ey;have Oh:=ja;clear ja gC Oh VC rV nK fW hX hL HV ve xK Ey HP HB uo Ir
  go_wp2_with (first|(refine cD rfl 60 (.tmp 19) rfl gh 0 rfl L _ ?_ underlying60 rfl HI.o ?_;exact HL.o)|refine jz rfl rfl ?_|fail)
  clear xA q1 f1 q3 HI HL Lt;refine(Ip gs pb x seen c lc cc b X Of.o HS.o.n ig yT).mono ?_;intro e w5 Ez;have HQ:=aj Ez;clear Ez;have Is:=aj (HS.o.sd.later Og.o)
  rcases HQ.o with⟨h0,v,q,rfl,jG,vB,nF⟩|⟨h0,rfl,jG⟩
  ·clear HQ Of;have iE:Below w.heap.size w w5:=dI Og.o jG (by omega);have nY:=aj iE;have VA:=jG.size;have td:ae (Vw w w5 (H6 w gh 0)):=by
    refine⟨⟨λp hp=>?_,?_⟩,sJ.o.lo,iE⟩
    ·have h1:=sJ.o.cell p hp;have h2:=sJ.o.vr.lt p hp;rw[jG.block p.1 h2 (λe=>by
      have h3:p.1=gs:=by cases e;rfl
      simp only[H6,mg,nj,or_false] at hp
      rcases hp with rfl|rfl
      ·simp at h3;omega
      ·simp at h3;omega)]
     exact h1
    ·exact sJ.o.vr.2
   have VD:=aj (Is.o.but jG (by omega));have tu:=aj nF;obtain⟨L5,EC⟩:∃L,SV ((NS.s1 x).d9 b) x.own x.once x.S seen=L:=⟨_,rfl⟩;have PB:L5.length=226:=by rw[←EC];exact vB.rB
   have wT:w5.heap[gs]?=some (.cells L5.toArray 60 (0,0)):=by have:=vB.row;rw[List.append_nil,EC] at this;exact this
   have Qx:ae ((prog.info? 60).map (·.size)=some L5.toArray.size):=by show _=_;have:=oJ vB.rB;rw[EC] at this;simpa using this
   obtain⟨Y,hY⟩:=aW (w5.drew);have cL:Below w5.heap.size w5 Y:=by rw[←hY];exact gl
   have yV:=aj hY;have Lu:=aj (td.o.later cL);have qZ:=aj (eS wT cL);have VE:=aj (VD.o.later cL);have ED:=aj (cT tu.o (cG cL) (λb' _ e=>by cases e));have Mc:=aj (nY.o.trans (cL.mono nY.o.size));have Oi:gs<Y.heap.size:=(gD.1 qZ.o).1;obtain⟨Y1,t1,Fo,oI⟩:=VE.o.eb ((NS.s1 x).d9 b) x.own x.once x.S seen vB.mi.c vB.mi.h vB.mi.k vB.k4;rw[EC] at t1;have gg:=aj Fo;have mL:=aj oI;have q6:=gg.o.next;have f6:=gg.o.frozen 226;have VF:ae (∀w',bI gh Y w'→w'.cell? ⟨w.heap.size,0,none⟩=some (.pointer (some ⟨gh,0,none⟩))):=λw' hw'=>(oC Lu.o hw' oa).1;have qf:ae (∀w',bI gh Y w'→w'.heap[gs]?=some (.cells L5.toArray 60 (0,0))):=λw' hw'=>(hw'.block gs Oi (λe=>by cases e;omega)).trans qZ.o;have WU:ae (∀w',bI gh Y w'→w.grownBy w' (some gh)):=λw' hw'=>World.grownBy.trans (bI.below gh Mc.o) hw';clear jG vB nF EC wT hY cL Fo oI iE td VD tu nY qZ VE Is sJ
   go_wp2_with fail
   refine ah (G:=bI gh) (by kernel_rfl) (bI.refl gh) (bI.trans gh) (by kernel_rfl) [(0,true),(1,true),(2,true),(3,true),(4,true),(5,true),(6,true),(7,false),(8,true),(9,true),(10,false)] rfl (by kernel_rfl) ?_;intro KK cA;rw[yV.o]
   iterate 2 (refine aa rfl (by rfl) (v:=?_) ?_ ?_;rotate_left;(intro w' hw';have qq:=VF.o w' hw';clear hw';go_simp;with_reducible rfl);go_simp)
   refine aa rfl (by rfl) (v:=.agg L5.toArray) (λw' hw'=>ar 60 _ rfl gs rfl 60 _ (0,0) _ (qf.o w' hw') underlying60 rfl Qx.o) ?_;go_simp
   iterate 4 (refine aa rfl (by rfl) (v:=?_) ?_ ?_;rotate_left;(intro w' hw';clear hw';go_simp;with_reducible rfl);go_simp)
   refine bu rfl (by rfl) (w':=Y1) (by go_simp) mL.o ?_;clear t1;go_simp
   iterate 2 (refine aa rfl (by rfl) (v:=?_) ?_ ?_;rotate_left;(intro w' hw';clear hw';go_simp;with_reducible rfl);go_simp)
   refine bu rfl (by rfl) (w':=Y1.setCell ⟨gh,226,none⟩ (.int .i64 6)) (by go_simp;rfl) (bI.setCell _ gh 226 _) ?_;clear q6 f6;have fH:bI gh Y (Y1.setCell ⟨gh,226,none⟩ (.int .i64 6)):=bI.trans gh _ _ _ mL.o (bI.setCell Y1 gh 226 _);have rq:iI (Y1.setCell ⟨gh,226,none⟩ (.int .i64 6)) gh 64 [.int .i64 ((6:Nat):Int)] ((NS.s1 x).d9 b) x.own x.once x.S seen:=gg.o.zW 6;obtain⟨Z,hZ⟩:=aW (Y1.setCell ⟨gh,226,none⟩ (.int .i64 6));rw[hZ] at fH rq;rw[hZ];obtain⟨_,q7,f7⟩:=oC Lu.o fH oa;have jR:=aj fH;have oE:=aj rq;clear fH rq hZ gg mL VF qf;go_simp
   refine az cA ?_;clear cA
   go_wp2
   have fP:Z.grownBy (Z.setCell ⟨w.heap.size+1,0,none⟩ (.int .i64 0)) (some (w.heap.size+1)):=bI.setCell Z (w.heap.size+1) 0 _;have tr:(Z.setCell ⟨w.heap.size+1,0,none⟩ (.int .i64 0)).cell? ⟨w.heap.size+1,0,none⟩=some (.int .i64 0):=oK q7;have Fs:iI (Z.setCell ⟨w.heap.size+1,0,none⟩ (.int .i64 0)) gh _ _ _ _ _ _ _:=oE.o.but fP (by omega);have DE:=cT (cT ED.o jR.o (λb' cU e=>by have:=(aad ED.o b' cU).1;cases e;omega)) fP (λb' cU e=>by have:=(aad ED.o b' cU).1;cases e;omega);have wm:w.grownBy (Z.setCell ⟨w.heap.size+1,0,none⟩ (.int .i64 0)) (some gh):=by have h1:=WU.o Z jR.o;exact⟨fP.os.trans h1.os,fP.tape.trans h1.tape,fP.output.trans h1.output,kx h1.size fP.size,λk hk eL=>(fP.block k (tV hk h1.size) (λe=>by cases e;omega)).trans (h1.block k hk eL)⟩
   have NC:=bQ DE (show w.heap.size≤X.heap.size by omega);obtain⟨U,hU⟩:=aW (Z.setCell ⟨w.heap.size+1,0,none⟩ (.int .i64 0));rw[hU] at tr Fs NC wm;rw[hU];clear fP DE hU q7 f7 jR oE ED;refine leaves_cons (f:=55) (args:=#[.pointer (some ⟨w.heap.size+1,0,none⟩),.pointer (some ⟨w.heap.size,0,none⟩)]) (by simp) (by simp[go_sem]) ?_;refine(xl (w.heap.size+1) w.heap.size U).mono ?_;rintro e u' RI ⟨rfl,rfl,rfl⟩;simp only[settle,Leaves];refine⟨.tuple #[v,.int .i64 0],?_,?_⟩
   ·simp[results,Tryz.results27,go_sem,tr]
   unfold Md;refine⟨v,q,?_,wm,?_,.inl ⟨h0,Fs⟩⟩
   ·rw[h0];rfl
   ·rw[if_pos h0];exact NC
  ·clear HQ Of;have iE:Below w.heap.size w w5:=dI Og.o jG (by omega);have td:ae (Vw w w5 (H6 w gh 0)):=by
    refine⟨⟨λp hp=>?_,?_⟩,sJ.o.lo,iE⟩
    ·have h1:=sJ.o.cell p hp;have h2:=sJ.o.vr.lt p hp;rw[jG.block p.1 h2 (λe=>by
      have h3:p.1=gs:=by cases e;rfl
      simp only[H6,mg,nj,or_false] at hp
      rcases hp with rfl|rfl
      ·simp at h3;omega
      ·simp at h3;omega)]
     exact h1
    ·exact sJ.o.vr.2
   obtain⟨er,qc⟩:=aW (sE x);rw[qc] at h0⊢;obtain⟨q1,_⟩:=uQ td.o;obtain⟨q2,f2⟩:=Ex td.o;have ja:=Is.o.but jG (by omega);have q3:=ja.next;have f3:=ja.frozen 226;have HF:=aj (HS.o.fail (sI td.o (er:Int)).aY);have vR:ae (((w5.setCell ⟨w.heap.size+1,0,none⟩ (.int .i64 (er:Int))).setCell ⟨gh,226,none⟩ (.int .i64 0)).cell? ⟨w.heap.size+1,0,none⟩=some (.int .i64 (er:Int))):=(oC (sI td.o (er:Int)) (bI.setCell _ gh 226 _) oa).2.1;have HE:=aj (And.intro qc h0);clear ja jG iE sJ Is td qc h0
   go_wp2_with fail
   refine leaves_cons (f:=55) (args:=#[.pointer (some ⟨w.heap.size+1,0,none⟩),.pointer (some ⟨w.heap.size,0,none⟩)]) (by simp) (by simp[go_sem]) ?_;refine(tI (w.heap.size+1) w.heap.size gh er [] w5 q2 f2 q1 (by omega) (by omega) (x.code:Int) q3 f3).mono ?_;rintro e u' RI ⟨rfl,rfl,rfl⟩;have jM:=vR.o;have hh:=HF.o;obtain⟨Z,hZ⟩:=aW ((w5.setCell ⟨w.heap.size+1,0,none⟩ (.int .i64 (er:Int))).setCell ⟨gh,226,none⟩ (.int .i64 0));rw[hZ] at jM hh;rw[hZ];clear hZ HF vR q1 q2 q3 f2 f3;simp only[settle,Leaves,List.dropWhile_nil];refine⟨.tuple #[.slice none 0 0,.int .i64 (er:Int)],?_,?_⟩
   ·simp[results,Tryz.results27,go_sem,jM]
   unfold Md;rw[HE.o.1];refine⟨.slice none 0 0,0,?_,hh.2,?_,.inr ⟨HE.o.2,hh.1⟩⟩
   ·rfl
   ·rw[if_neg HE.o.2];exact⟨rfl,.inl ⟨rfl,rfl⟩⟩
theorem BG (gh:Nat)(x:NS)(c:bW)(lc cc:Nat)(b:aO)(w:aw)(hH:ju w gh x)(hB:bj w c lc b)(kX:c=none→cc=0)(ig:lc≤800)(kZ:lc≤cc)(gB:cc≤maxLen)(Az:0<lc→∀y o f,c=some ⟨y,o,f⟩→y<w.heap.size)(hT:TT w)(hg:E7 gh):
  Calls prog 14 #[.pointer (some ⟨gh,0,none⟩),.slice c lc cc] w λe w'=>Jm w w' gh e (NS.dn x) (NS.second x b) (NS.dm x b):=by
 have oa:=hH.lt;have HH:=aj hH;have HB:=aj hB;have HT:=aj hT;have HG:=aj hg;have Ir:=aj Az;have Sy:∀(fn:Fn) (first cap:Array Value) (w:aw),(Instr.makeFunc fn first cap).run prog w= .ok (.func fn first cap) w:=λ_ _ _ _=>rfl;have ck:Below w.heap.size w (w.alloc (.cells #[.slice c lc cc] 22)):=eF;have bh:=eC w (.cells #[.slice c lc cc] 22);have iG:ae (∀w',w'=w.alloc (.cells #[.slice c lc cc] 22)→Below w.heap.size w w'∧w'.heap[w.heap.size]?=some (.cells #[.slice c lc cc] 22 (0,0))):=λw' e=>by rw[e];exact⟨ck,bh⟩
 clear hH hB hT hg Az ck bh
 go_enter func14,ntmps14
 go_wp2_with fail
 obtain⟨W,hW⟩:=aW (w.alloc (.cells #[.slice c lc cc] 22));obtain⟨ck,bh⟩:=iG.o W hW.symm;have HW:=aj ck;have HR:=aj bh;rw[hW];clear hW ck bh iG Sy
 by_cases hs:x.bP=false∧x.st=1
 ·obtain⟨seen,Cy⟩:=HH.o.later HW.o;have gY:x.code=5:=by unfold NS.code;rw[hs.1,hs.2];rfl
  have hE:NS.dn x=sE x:=by unfold NS.dn;rw[if_pos hs];rfl
  have hn:=Cy.n;have HE:=aj hE;have HS:=aj hs;refine(It gh w.heap.size x seen c lc cc b W Cy gY (Cy.se hs.1 hs.2) HR.o (HB.o.later HW.o) kX ig kZ gB (λh0 y o f e=>tV (Ir.o h0 y o f e) HW.o.size) (HT.o.later HW.o) HG.o).mono ?_;intro e w2 Gf;unfold Md at Gf;obtain⟨v,q,rfl,fH,cZ,yN⟩:=Gf;have jR:ae (w.grownBy w2 (some gh)):=World.grownBy.trans (bI.below gh HW.o) fH;have nW:=aj (bQ cZ HW.o.size);have uy:ae (ju w2 gh (NS.second x b)):=by
   show ju _ _ _;unfold NS.second;rw[hE]
   rcases yN with⟨h0,rq⟩|⟨h0,rq⟩
   ·rw[if_pos h0];exact⟨_,⟨by show iI _ _ _ [.int .i64 ((NS.code _:Nat):Int)] _ _ _ _ _;rw[show NS.code _=6 by unfold NS.code;rw[hs.1];rfl];exact rq,.inr (.inr (.inl rfl)),(λ_ h=>absurd (show(2:Nat)=1 from h) (by decide)),kx (Nat.le_of_eq (MS.JJ _ _ _)) (by omega)⟩⟩
   ·rw[if_neg h0];exact rq
  clear fH cZ yN hE hs gY Cy;obtain⟨er,qc⟩:=aW (sE x);rw[qc] at HE nW;rw[qc];clear qc
  go_wp2_with fail
  go_ret2
  unfold Jm;refine⟨v,q,?_,jR.o,uy.o,?_⟩
  ·exact congrArg (λk:Nat=>Ending.returned (.tuple #[v,.int .i64 (k:Int)])) HE.o.symm
  ·rw[HE.o];exact nW.o
 ·have hE:NS.dn x=10:=by unfold NS.dn;rw[if_neg hs]
  have xA:NS.second x b=x.gI:=by unfold NS.second;rw[hE];rfl
  have gY:x.code≠5:=by obtain⟨seen,Cy⟩:=HH.o;have h1:=Cy.st;unfold NS.code;cases hx:x.bP<;>rw[hx] at hs<;>simp at hs⊢<;>(try split)<;>omega
  have HE:=aj (And.intro hE xA);clear hE xA hs;refine(rW gh x 5 _ W (HH.o.later HW.o) gY).mono ?_;rintro e w2 ⟨rfl,fH,tq⟩;have jR:ae (w.grownBy w2 (some gh)):=World.grownBy.trans (bI.below gh HW.o) fH;have uy:=aj tq;clear fH tq gY
  go_wp2_with fail
  go_ret2
  unfold Jm;rw[HE.o.1,HE.o.2];exact⟨.slice none 0 0,0,rfl,jR.o,uy.o,⟨rfl,.inl ⟨rfl,rfl⟩⟩⟩
theorem Ok (gh pb:Nat)(x:NS)(seen:aO)(c:bW)(lc cc:Nat)(b:aO)(w:aw)(hH:HaS w gh x seen)(hd:x.code=2)(hp:w.heap[pb]?=some (.cells #[.slice c lc cc] 22 (0,0)))(hB:bj w c lc b)(kX:c=none→cc=0)(ig:lc≤900)(kZ:lc≤cc)(gB:cc≤maxLen)(Az:0<lc→∀y o f,c=some ⟨y,o,f⟩→y<w.heap.size)(hT:TT w)(hg:E7 gh):
  Calls prog 27 #[.pointer (some ⟨gh,0,none⟩),.int .i64 2,.func (.func 40) #[] #[.pointer (some ⟨pb,0,none⟩)]] w λe w'=>Md w w' gh x e (dE x b) 3 ((NS.d1 x b).opened (b.drop 32)) x.own x.once x.S (NS.hR b) (NS.jo x b):=by
 have oa:=hH.sd.lt;have tN:pb<w.heap.size:=(gD.1 hp).1;have HS:=aj hH;have gC:=aj (Ew w gh);have HP:=aj hp;have HB:=aj hB;have HT:=aj hT;have HG:=aj hg;have Ir:=aj Az;have Z':(x.code:Int)=2:=by omega
 have Sy:∀(fn:Fn) (first cap:Array Value) (w:aw),(Instr.makeFunc fn first cap).run prog w= .ok (.func fn first cap) w:=λ_ _ _ _=>rfl;clear hH hp hB hT hg Az
 go_enter_defers func27,ntmps27
 refine wp_seq (wp_cut (λa W=>a={tmps:=#[.pointer (some ⟨gh,0,none⟩),.int .i64 2,.func (.func 40) #[] #[.pointer (some ⟨pb,0,none⟩)],.pointer (some ⟨w.heap.size,0,none⟩),ag,ag,.slice none 0 0,.pointer (some ⟨w.heap.size+1,0,none⟩),ag,ag,ag,ag,ag,ag,ag,ag,ag,ag,ag,ag,ag,ag,ag,ag,ag,ag,ag,ag,ag,ag,ag,ag,ag],defers:=[]}∧ae (Vw w W (H6 w gh 0))) ?_ ?_)
 ·go_wp2
  all_goals first|exact gC|exact⟨rfl,gC⟩|exact⟨rfl,rfl,gC⟩
 ·rintro a W0 ⟨rfl,HV⟩;simp only[Exit.then];obtain⟨q1,f1⟩:=uQ HV.o;have ja:=HS.o.sd.later HV.o.aY;have q3:=ja.next;have uo:=aj ja;obtain⟨L,hL⟩:=aW (SV x.M x.own x.once x.S seen);have hlen:L.length=226:=by rw[←hL];exact ja.rB
  have HI:ae ((prog.info? 60).map (·.size)=some L.length):=by show _=_;rw[←hL];exact oJ ja.rB
  have HL:ae (∀j v,L[j]?=some v→W0.cell? ⟨gh,0+j,none⟩=some v):=by rw[←hL];exact ja.Zg
  have fW:∀v∈L,v.oneCell'=true:=by rw[←hL];exact wQ _ _ _ _ _
  have xA:=fi W0 60 L 226 hlen (by kernel_rfl) fW GB.toArray (by simpa using j8);have rV:Below W0.heap.size W0 (W0.alloc (.cells L.toArray 60)):=eF;have nK:=eC W0 (.cells L.toArray 60);obtain⟨X,hX⟩:=aW (W0.alloc (.cells L.toArray 60));rw[hX] at xA rV nK;have hsX:X.heap.size=W0.heap.size+1:=by rw[←hX];simp
  have ve:=HV.o.aY.size;obtain⟨gs,Lt⟩:=aW (W0.heap.size);rw[Lt] at xA nK hsX ve;have VC:Sd X gs x.M x.own x.once x.S seen:=iI.of (by rw[List.append_nil,hL];exact nK) ja.mi.c ja.mi.h ja.mi.k ja.k4;have Ey:Below w.heap.size w X:=HV.o.aY.trans (rV.mono HV.o.aY.size);have sJ:=aj (HV.o.later rV);have xK:=(HV.o.vr.lt (w.heap.size+1,36,[.int .i64 0]) (List.mem_cons_of_mem _ (List.mem_cons_self ..)));have hsw:w.heap.size+1<gs:=by rw[←Lt];exact xK
  have Of:ae (Cl X X gs pb c lc cc b x.M x.own x.once x.S seen):=⟨⟨(Ey.block pb tN).trans HP.o,HB.o.later Ey,kX,kZ,gB,(by omega),(λh0 y o f e=>by have:=Ir.o h0 y o f e;omega),HT.o.later Ey,HT.o.new (by omega),(by omega)⟩,VC,cR _ _⟩;have Og:=aj Ey;have Oh:=ja;clear ja gC Oh VC rV nK fW hX hL HV ve xK Ey HP HB uo Ir
  go_wp2_with (first|(refine cD rfl 60 (.tmp 19) rfl gh 0 rfl L _ ?_ underlying60 rfl HI.o ?_;exact HL.o)|refine jz rfl rfl ?_|fail)
  clear xA q1 f1 q3 HI HL Lt;refine(Oe gs pb x seen c lc cc b X Of.o HS.o.n ig).mono ?_;intro e w5 Ez;have HQ:=aj Ez;clear Ez;have Is:=aj (HS.o.sd.later Og.o)
  rcases HQ.o with⟨h0,v,q,rfl,jG,vB,nF⟩|⟨h0,rfl,jG⟩
  ·clear HQ Of;have iE:Below w.heap.size w w5:=dI Og.o jG (by omega);have nY:=aj iE;have VA:=jG.size;have td:ae (Vw w w5 (H6 w gh 0)):=by
    refine⟨⟨λp hp=>?_,?_⟩,sJ.o.lo,iE⟩
    ·have h1:=sJ.o.cell p hp;have h2:=sJ.o.vr.lt p hp;rw[jG.block p.1 h2 (λe=>by
      have h3:p.1=gs:=by cases e;rfl
      simp only[H6,mg,nj,or_false] at hp
      rcases hp with rfl|rfl
      ·simp at h3;omega
      ·simp at h3;omega)]
     exact h1
    ·exact sJ.o.vr.2
   have VD:=aj (Is.o.but jG (by omega));have tu:=aj nF;obtain⟨L5,EC⟩:∃L,SV ((NS.d1 x b).opened (b.drop 32)) x.own x.once x.S (NS.hR b)=L:=⟨_,rfl⟩;have PB:L5.length=226:=by rw[←EC];exact vB.rB
   have wT:w5.heap[gs]?=some (.cells L5.toArray 60 (0,0)):=by have:=vB.row;rw[List.append_nil,EC] at this;exact this
   have Qx:ae ((prog.info? 60).map (·.size)=some L5.toArray.size):=by show _=_;have:=oJ vB.rB;rw[EC] at this;simpa using this
   obtain⟨Y,hY⟩:=aW (w5.drew);have cL:Below w5.heap.size w5 Y:=by rw[←hY];exact gl
   have yV:=aj hY;have Lu:=aj (td.o.later cL);have qZ:=aj (eS wT cL);have VE:=aj (VD.o.later cL);have ED:=aj (cT tu.o (cG cL) (λb' _ e=>by cases e));have Mc:=aj (nY.o.trans (cL.mono nY.o.size));have Oi:gs<Y.heap.size:=(gD.1 qZ.o).1;obtain⟨Y1,t1,Fo,oI⟩:=VE.o.eb ((NS.d1 x b).opened (b.drop 32)) x.own x.once x.S (NS.hR b) vB.mi.c vB.mi.h vB.mi.k vB.k4;rw[EC] at t1;have gg:=aj Fo;have mL:=aj oI;have q6:=gg.o.next;have f6:=gg.o.frozen 226;have VF:ae (∀w',bI gh Y w'→w'.cell? ⟨w.heap.size,0,none⟩=some (.pointer (some ⟨gh,0,none⟩))):=λw' hw'=>(oC Lu.o hw' oa).1;have qf:ae (∀w',bI gh Y w'→w'.heap[gs]?=some (.cells L5.toArray 60 (0,0))):=λw' hw'=>(hw'.block gs Oi (λe=>by cases e;omega)).trans qZ.o;have WU:ae (∀w',bI gh Y w'→w.grownBy w' (some gh)):=λw' hw'=>World.grownBy.trans (bI.below gh Mc.o) hw';clear jG vB nF EC wT hY cL Fo oI iE td VD tu nY qZ VE Is sJ
   go_wp2_with fail
   refine ah (G:=bI gh) (by kernel_rfl) (bI.refl gh) (bI.trans gh) (by kernel_rfl) [(0,true),(1,true),(2,true),(3,true),(4,true),(5,true),(6,true),(7,false),(8,true),(9,true),(10,false)] rfl (by kernel_rfl) ?_;intro KK cA;rw[yV.o]
   iterate 2 (refine aa rfl (by rfl) (v:=?_) ?_ ?_;rotate_left;(intro w' hw';have qq:=VF.o w' hw';clear hw';go_simp;with_reducible rfl);go_simp)
   refine aa rfl (by rfl) (v:=.agg L5.toArray) (λw' hw'=>ar 60 _ rfl gs rfl 60 _ (0,0) _ (qf.o w' hw') underlying60 rfl Qx.o) ?_;go_simp
   iterate 4 (refine aa rfl (by rfl) (v:=?_) ?_ ?_;rotate_left;(intro w' hw';clear hw';go_simp;with_reducible rfl);go_simp)
   refine bu rfl (by rfl) (w':=Y1) (by go_simp) mL.o ?_;clear t1;go_simp
   iterate 2 (refine aa rfl (by rfl) (v:=?_) ?_ ?_;rotate_left;(intro w' hw';clear hw';go_simp;with_reducible rfl);go_simp)
   refine bu rfl (by rfl) (w':=Y1.setCell ⟨gh,226,none⟩ (.int .i64 3)) (by go_simp;rfl) (bI.setCell _ gh 226 _) ?_;clear q6 f6;have fH:bI gh Y (Y1.setCell ⟨gh,226,none⟩ (.int .i64 3)):=bI.trans gh _ _ _ mL.o (bI.setCell Y1 gh 226 _);have rq:iI (Y1.setCell ⟨gh,226,none⟩ (.int .i64 3)) gh 64 [.int .i64 ((3:Nat):Int)] ((NS.d1 x b).opened (b.drop 32)) x.own x.once x.S (NS.hR b):=gg.o.zW 3;obtain⟨Z,hZ⟩:=aW (Y1.setCell ⟨gh,226,none⟩ (.int .i64 3));rw[hZ] at fH rq;rw[hZ];obtain⟨_,q7,f7⟩:=oC Lu.o fH oa;have jR:=aj fH;have oE:=aj rq;clear fH rq hZ gg mL VF qf;go_simp
   refine az cA ?_;clear cA
   go_wp2
   have fP:Z.grownBy (Z.setCell ⟨w.heap.size+1,0,none⟩ (.int .i64 0)) (some (w.heap.size+1)):=bI.setCell Z (w.heap.size+1) 0 _;have tr:(Z.setCell ⟨w.heap.size+1,0,none⟩ (.int .i64 0)).cell? ⟨w.heap.size+1,0,none⟩=some (.int .i64 0):=oK q7;have Fs:iI (Z.setCell ⟨w.heap.size+1,0,none⟩ (.int .i64 0)) gh _ _ _ _ _ _ _:=oE.o.but fP (by omega);have DE:=cT (cT ED.o jR.o (λb' cU e=>by have:=(aad ED.o b' cU).1;cases e;omega)) fP (λb' cU e=>by have:=(aad ED.o b' cU).1;cases e;omega);have wm:w.grownBy (Z.setCell ⟨w.heap.size+1,0,none⟩ (.int .i64 0)) (some gh):=by have h1:=WU.o Z jR.o;exact⟨fP.os.trans h1.os,fP.tape.trans h1.tape,fP.output.trans h1.output,kx h1.size fP.size,λk hk eL=>(fP.block k (tV hk h1.size) (λe=>by cases e;omega)).trans (h1.block k hk eL)⟩
   have NC:=bQ DE (show w.heap.size≤X.heap.size by omega);obtain⟨U,hU⟩:=aW (Z.setCell ⟨w.heap.size+1,0,none⟩ (.int .i64 0));rw[hU] at tr Fs NC wm;rw[hU];clear fP DE hU q7 f7 jR oE ED;refine leaves_cons (f:=55) (args:=#[.pointer (some ⟨w.heap.size+1,0,none⟩),.pointer (some ⟨w.heap.size,0,none⟩)]) (by simp) (by simp[go_sem]) ?_;refine(xl (w.heap.size+1) w.heap.size U).mono ?_;rintro e u' RI ⟨rfl,rfl,rfl⟩;simp only[settle,Leaves];refine⟨.tuple #[v,.int .i64 0],?_,?_⟩
   ·simp[results,Tryz.results27,go_sem,tr]
   unfold Md;refine⟨v,q,?_,wm,?_,.inl ⟨h0,Fs⟩⟩
   ·rw[h0];rfl
   ·rw[if_pos h0];exact NC
  ·clear HQ Of;have iE:Below w.heap.size w w5:=dI Og.o jG (by omega);have td:ae (Vw w w5 (H6 w gh 0)):=by
    refine⟨⟨λp hp=>?_,?_⟩,sJ.o.lo,iE⟩
    ·have h1:=sJ.o.cell p hp;have h2:=sJ.o.vr.lt p hp;rw[jG.block p.1 h2 (λe=>by
      have h3:p.1=gs:=by cases e;rfl
      simp only[H6,mg,nj,or_false] at hp
      rcases hp with rfl|rfl
      ·simp at h3;omega
      ·simp at h3;omega)]
     exact h1
    ·exact sJ.o.vr.2
   obtain⟨er,qc⟩:=aW (dE x b);rw[qc] at h0⊢;obtain⟨q1,_⟩:=uQ td.o;obtain⟨q2,f2⟩:=Ex td.o;have ja:=Is.o.but jG (by omega);have q3:=ja.next;have f3:=ja.frozen 226;have HF:=aj (HS.o.fail (sI td.o (er:Int)).aY);have vR:ae (((w5.setCell ⟨w.heap.size+1,0,none⟩ (.int .i64 (er:Int))).setCell ⟨gh,226,none⟩ (.int .i64 0)).cell? ⟨w.heap.size+1,0,none⟩=some (.int .i64 (er:Int))):=(oC (sI td.o (er:Int)) (bI.setCell _ gh 226 _) oa).2.1;have HE:=aj (And.intro qc h0);clear ja jG iE sJ Is td qc h0
   go_wp2_with fail
   refine leaves_cons (f:=55) (args:=#[.pointer (some ⟨w.heap.size+1,0,none⟩),.pointer (some ⟨w.heap.size,0,none⟩)]) (by simp) (by simp[go_sem]) ?_;refine(tI (w.heap.size+1) w.heap.size gh er [] w5 q2 f2 q1 (by omega) (by omega) (x.code:Int) q3 f3).mono ?_;rintro e u' RI ⟨rfl,rfl,rfl⟩;have jM:=vR.o;have hh:=HF.o;obtain⟨Z,hZ⟩:=aW ((w5.setCell ⟨w.heap.size+1,0,none⟩ (.int .i64 (er:Int))).setCell ⟨gh,226,none⟩ (.int .i64 0));rw[hZ] at jM hh;rw[hZ];clear hZ HF vR q1 q2 q3 f2 f3;simp only[settle,Leaves,List.dropWhile_nil];refine⟨.tuple #[.slice none 0 0,.int .i64 (er:Int)],?_,?_⟩
   ·simp[results,Tryz.results27,go_sem,jM]
   unfold Md;rw[HE.o.1];refine⟨.slice none 0 0,0,?_,hh.2,?_,.inr ⟨HE.o.2,hh.1⟩⟩
   ·rfl
   ·rw[if_neg HE.o.2];exact⟨rfl,.inl ⟨rfl,rfl⟩⟩
theorem GF (gh:Nat)(x:NS)(c:bW)(lc cc:Nat)(b:aO)(w:aw)(hH:ju w gh x)(hB:bj w c lc b)(kX:c=none→cc=0)(ig:lc≤900)(kZ:lc≤cc)(gB:cc≤maxLen)(Az:0<lc→∀y o f,c=some ⟨y,o,f⟩→y<w.heap.size)(hT:TT w)(hg:E7 gh):
  Calls prog 16 #[.pointer (some ⟨gh,0,none⟩),.slice c lc cc] w λe w'=>Jm w w' gh e (NS.eJ x b) (NS.done x b) (NS.jo x b):=by
 have oa:=hH.lt;have HH:=aj hH;have HB:=aj hB;have HT:=aj hT;have HG:=aj hg;have Ir:=aj Az;have Sy:∀(fn:Fn) (first cap:Array Value) (w:aw),(Instr.makeFunc fn first cap).run prog w= .ok (.func fn first cap) w:=λ_ _ _ _=>rfl;have ck:Below w.heap.size w (w.alloc (.cells #[.slice c lc cc] 22)):=eF;have bh:=eC w (.cells #[.slice c lc cc] 22);have iG:ae (∀w',w'=w.alloc (.cells #[.slice c lc cc] 22)→Below w.heap.size w w'∧w'.heap[w.heap.size]?=some (.cells #[.slice c lc cc] 22 (0,0))):=λw' e=>by rw[e];exact⟨ck,bh⟩
 clear hH hB hT hg Az ck bh
 go_enter func16,ntmps16
 go_wp2_with fail
 obtain⟨W,hW⟩:=aW (w.alloc (.cells #[.slice c lc cc] 22));obtain⟨ck,bh⟩:=iG.o W hW.symm;have HW:=aj ck;have HR:=aj bh;rw[hW];clear hW ck bh iG Sy
 by_cases hs:x.bP=true∧x.st=1
 ·obtain⟨seen,Cy⟩:=HH.o.later HW.o;have gY:x.code=2:=by unfold NS.code;rw[hs.1,hs.2];rfl
  have hE:NS.eJ x b=dE x b:=by unfold NS.eJ;rw[if_pos hs];rfl
  have hn:=Cy.n;have HE:=aj hE;have HS:=aj hs;refine(Ok gh w.heap.size x seen c lc cc b W Cy gY HR.o (HB.o.later HW.o) kX ig kZ gB (λh0 y o f e=>tV (Ir.o h0 y o f e) HW.o.size) (HT.o.later HW.o) HG.o).mono ?_;intro e w2 Gf;unfold Md at Gf;obtain⟨v,q,rfl,fH,cZ,yN⟩:=Gf;have jR:ae (w.grownBy w2 (some gh)):=World.grownBy.trans (bI.below gh HW.o) fH;have nW:=aj (bQ cZ HW.o.size);have uy:ae (ju w2 gh (NS.done x b)):=by
   show ju _ _ _;unfold NS.done;rw[hE]
   rcases yN with⟨h0,rq⟩|⟨h0,rq⟩
   ·rw[if_pos h0];exact⟨_,⟨by show iI _ _ _ [.int .i64 ((NS.code _:Nat):Int)] _ _ _ _ _;rw[show NS.code _=3 by unfold NS.code;rw[hs.1];rfl];exact rq,.inr (.inr (.inl rfl)),(λ_ h=>absurd (show(2:Nat)=1 from h) (by decide)),z8 _ _ _⟩⟩
   ·rw[if_neg h0];exact rq
  clear fH cZ yN hE hs gY Cy;obtain⟨er,qc⟩:=aW (dE x b);rw[qc] at HE nW;rw[qc];clear qc
  go_wp2_with fail
  go_ret2
  unfold Jm;refine⟨v,q,?_,jR.o,uy.o,?_⟩
  ·exact congrArg (λk:Nat=>Ending.returned (.tuple #[v,.int .i64 (k:Int)])) HE.o.symm
  ·rw[HE.o];exact nW.o
 ·have hE:NS.eJ x b=10:=by unfold NS.eJ;rw[if_neg hs]
  have xA:NS.done x b=x.gI:=by unfold NS.done;rw[hE];rfl
  have gY:x.code≠2:=by obtain⟨seen,Cy⟩:=HH.o;have h1:=Cy.st;unfold NS.code;cases hx:x.bP<;>rw[hx] at hs<;>simp at hs⊢<;>(try split)<;>omega
  have HE:=aj (And.intro hE xA);clear hE xA hs;refine(rW gh x 2 _ W (HH.o.later HW.o) gY).mono ?_;rintro e w2 ⟨rfl,fH,tq⟩;have jR:ae (w.grownBy w2 (some gh)):=World.grownBy.trans (bI.below gh HW.o) fH;have uy:=aj tq;clear fH tq gY
  go_wp2_with fail
  go_ret2
  unfold Jm;rw[HE.o.1,HE.o.2];exact⟨.slice none 0 0,0,rfl,jR.o,uy.o,⟨rfl,.inl ⟨rfl,rfl⟩⟩⟩
end Go.Proofs.YtkdpblbhcfhagaaGreatDoor
