import Derived.ArgAppend
import Derived.OrdersHeld
import Derived.Deep.RegionHeld3
import Derived.Test.YtkdpblbhcfhagaaGreatDoorQaa
import Derived.Laws.OwnMore
import Derived.Deep.WholeRow
import Derived.Lib.SlBytesConst
import Derived.ChangeKeysEq
import Derived.Laws.StructEq
import Derived.Great.BuildSlice
import Derived.DeepKeys
import Derived.Test.YtkdpblbhcfhagaaGreatDoorRows
import Derived.ProofKit
import Derived.LaidMore
import Derived.OpenShut
import Derived.Stop.Joined
import Derived.ShutString
import Derived.ChangeOld
import Derived.Below
namespace Go.Proofs.YtkdpblbhcfhagaaGreatDoor
open Go.Proofs.Tryz
open _root_.Nat renaming le_refl → di, le_trans → kx, lt_of_lt_of_le → tV
open Go.RowKit.Below renaming refl → bZ, heap_alloc → jE
open Go.World renaming size_alloc → fx
open _root_.Array renaming getElem?_eq_some_iff → gD
open Go renaming undef → ag, World → aw, heap_alloc_new → eC
open _root_.List renaming replicate → cz, not_mem_nil → nj, mem_cons → mg, take_of_length_le → su
open Go.Exit renaming inBlock → nu
set_option maxHeartbeats 64000000
set_option maxRecDepth 100000
open Go.RowKit
def dJ (w:aw)(e:TypeId)(a:bW)(n cap:Nat)(vs:bK):Prop:=
 vs.length=n∧((a=none∧n=0∧cap=0)∨∃g off cur,a=some ⟨g,off,none⟩∧w.heap[g]?=some (.cells cur e (0,0))∧off+cap≤cur.size∧n≤cap∧∀i,i<n→cur[off+i]?=vs[i]?)
def bL (a:bW):Option Nat:=a.map (·.block)
theorem dJ.nil (w:aw)(e:TypeId):dJ w e none 0 0 []:=⟨rfl,.inl ⟨rfl,rfl,rfl⟩⟩
theorem dJ.kept {w w':aw}{e:TypeId}{a:bW}{n cap:Nat}{vs:bK}(h:dJ w e a n cap vs)(hk:∀g,bL a=some g→w'.heap[g]?=w.heap[g]?):dJ w' e a n cap vs:=by
 refine⟨h.1,?_⟩
 rcases h.2 with h0|⟨g,off,cur,rfl,hg,h1,h2,h3⟩
 ·exact .inl h0
 ·exact .inr ⟨g,off,cur,rfl,by rw[hk g rfl];exact hg,h1,h2,h3⟩
theorem dJ.lt {w:aw}{e:TypeId}{a:bW}{n cap:Nat}{vs:bK}(h:dJ w e a n cap vs):∀g,bL a=some g→g<w.heap.size:=by
 intro g hg
 rcases h.2 with⟨rfl,_⟩|⟨g',off,cur,rfl,hh,_⟩
 ·simp[bL] at hg
 ·simp[bL] at hg;subst hg;exact(gD.1 hh).1
theorem dJ.cell {w:aw}{e:TypeId}{a:bW}{n cap:Nat}{vs:bK}(h:dJ w e a n cap vs)(i:Nat)(hi:i<n):∃g off,a=some ⟨g,off,none⟩∧w.cell? ⟨g,off+i,none⟩=vs[i]?∧w.frozen? ⟨g,off+i,none⟩=false:=by
 rcases h.2 with⟨_,h0,_⟩|⟨g,off,cur,rfl,hg,h1,h2,h3⟩
 ·omega
 ·exact⟨g,off,rfl,by rw[cell_of_row w g (off+i) cur e (0,0) hg];exact h3 i hi,frozen_of_row w g (off+i) cur e hg⟩
theorem dJ.jT {w:aw}{base:Nat}{e:TypeId}{v:Value}{n:Nat}{xs:bK}(h:w.ownsRow base e 1 v n xs)(hn:0<n):
  ∃g cap,v= .slice (some ⟨g,0,none⟩) n cap∧base≤g∧dJ w e (some ⟨g,0,none⟩) n cap xs:=by
 rcases h.2 with⟨_,h0⟩|⟨g,cap,cur,rfl,hb,hg,uj,m7,gw,FP⟩
 ·omega
 ·refine⟨g,cap,rfl,hb,by have:=h.1;omega,.inr ⟨g,0,cur,rfl,hg,by omega,uj,λi hi=>?_⟩⟩;rw[←FP,List.getElem?_take,if_pos (by omega)];simp
theorem addr_add (g off j:Nat):(⟨g,off,none⟩:Addr).add j=⟨g,off+j,none⟩:=by unfold Addr.add;split<;>simp_all
theorem oh {P:Program}(t ty e:TypeId)(i:TypeInfo)(z:Value)(bytes:Nat)(ht:P.underlying t=some (.slice e))(hi:P.info? e=some i)(hz:i.zero=some z)(xG:i.size=1)(hby:i.bytes=bytes)(SY:z.cells.size=1)
  (w:aw) (a:bW) (n cap:Nat) (vs:bK) (h:dJ w e a n cap vs) (x:Value) (hx:x.oneCell'=true) (hn:n+1≤maxLen) (hb:(n+1)*bytes≤140737488355328):
  ∃a' cK w2,(Builtin.append_ #[t,t] ty #[.slice a n cap,.slice (some ⟨w.heap.size,0,none⟩) 1 1]).run P (w.alloc (.cells #[x] e))= .ok (.slice a' (n+1) cK) w2∧
   dJ w2 e a' (n+1) cK (vs++[x])∧w.grownBy w2 (bL a)∧(bL a'=bL a∨∀j,bL a'=some j→w.heap.size≤j)∧w.heap.size+1≤w2.heap.size:=by
 have G6:∀j u,[x][j]?=some u→(w.alloc (.cells #[x] e)).cell? ((⟨w.heap.size,0,none⟩:Addr).add j)=some u:=cell_one_new _ _ _;have h1c:∀u∈[x],u.oneCell'=true:=by intro u hu;simp at hu;subst hu;exact hx
 have hv:=h.1;have iz:∀g,bL a=some g→(w.alloc (.cells #[x] e)).heap[g]?=w.heap[g]?:=λg hg=>jE w _ g (h.lt g hg);have JM:∀w2:aw,(w.alloc (.cells #[x] e)).grownBy w2 none→w.grownBy w2 (bL a):=λw2 hg=>
  ⟨hg.os,hg.tape,hg.output,by have:=hg.size;simp at this;omega,λk hk eL=>by rw[hg.block k (by simp;omega) (by simp)];exact jE w _ k hk⟩
 rcases h.2 with⟨rfl,rfl,rfl⟩|⟨g,off,cur,rfl,hg,hoc,uj,SZ⟩
 ·obtain rfl:vs=[]:=List.eq_nil_of_length_eq_zero hv;obtain⟨v',w2,hr,ff,cL,_⟩:=run_append_own (P:=P) (w.alloc (.cells #[x] e)) w.heap.size t ty e i z 1 bytes ht hi hz xG hby SY (by decide) (.slice none 0 0) 0 [] (World.ownsRow_nil _ _ _ _) ⟨w.heap.size,0,none⟩ 1 1 [x] rfl G6 h1c hn hb (by simp);obtain⟨g,cK,rfl,pW,vE⟩:=dJ.jT ff (by omega);exact⟨_,_,w2,hr,by simpa using vE,JM w2 cL,.inr (λj hj=>by simp[bL] at hj;omega),by have:=cL.size;simpa using this⟩
 ·have hold:∀j u,vs[j]?=some u→(w.alloc (.cells #[x] e)).cell? ((⟨g,off,none⟩:Addr).add j)=some u:=by
   intro j u hj;have hjn:j<n:=by
    rcases Nat.lt_or_ge j vs.length with hh|hh
    ·omega
    ·rw[List.getElem?_eq_none hh] at hj;cases hj
   rw[addr_add,cell_of_row _ g (off+j) cur e (0,0) (by rw[iz g rfl];exact hg),SZ j hjn];exact hj
  by_cases FQ:n+1≤cap
  ·have hgA:(w.alloc (.cells #[x] e)).heap[g]?=some (.cells cur e (0,0)):=by rw[iz g rfl];exact hg
   have hr:=run_append_room_cells (P:=P) (w.alloc (.cells #[x] e)) t ty e i ht hi g off n cap ⟨w.heap.size,0,none⟩ 1 1 [x] (by simp[xG]) G6 h1c FQ
    (by intro j hj;simp at hj;subst hj;rw[xG,Nat.mul_one,cell_of_row _ g _ cur e (0,0) hgA];simp;omega)
    (by intro j hj;exact frozen_of_row _ g _ cur e hgA)
   rw[xG,Nat.mul_one] at hr;have akN:(w.alloc (.cells #[x] e)).setCells g (off+n) [x]=(w.alloc (.cells #[x] e)).setCell ⟨g,off+n,none⟩ x:=rfl;rw[akN] at hr;refine⟨_,_,_,hr,⟨by simp[hv],.inr ⟨g,off,cur.setIfInBounds (off+n) x,rfl,heap_setCell_same _ g (off+n) cur e x hgA,by simpa using hoc,FQ,?_⟩⟩,?_,.inl rfl,by simp[World.setCell]⟩
   ·intro j hj;rw[Array.getElem?_setIfInBounds]
    by_cases hjn:j=n
    ·subst hjn;rw[if_pos rfl,if_pos (by omega)];simp[←hv]
    ·rw[if_neg (by omega),SZ j (by omega),List.getElem?_append_left (by omega)]
   ·refine⟨rfl,rfl,rfl,by simp,λk hk eL=>?_⟩;rw[heap_setCell_other _ ⟨g,off+n,none⟩ k x (by intro e;apply eL;simp[bL,e])];exact jE w _ k hk
  ·obtain⟨v',w2,hr,ff,cL⟩:=run_append_arg_grows (P:=P) (w.alloc (.cells #[x] e)) t ty e i z 1 bytes ht hi hz xG hby SY (by decide) ⟨g,off,none⟩ n cap vs (by omega) hold ⟨w.heap.size,0,none⟩ 1 1 [x] rfl G6 (by omega) hn hb;obtain⟨g',cK,rfl,pW,vE⟩:=dJ.jT ff (by omega);exact⟨_,_,w2,hr,vE,JM w2 cL,.inr (λj hj=>by simp[bL] at hj;simp at pW;omega),by have:=cL.size;simpa using this⟩
theorem zl {B:Nat}{W w2:aw}{a:bW}(hg:W.grownBy w2 (bL a))(hs:W.heap.size+1≤w2.heap.size)(hB:B≤W.heap.size)(ha:∀j,bL a=some j→B≤j)(o:Obj):Below B (W.alloc o) w2:=
 ⟨hg.os,hg.tape,hg.output,by simpa using hs,λj hj=>by rw[hg.block j (by omega) (by intro e;have:=ha j e.symm;omega)];exact(jE W o j (by omega)).symm⟩
theorem ao {P:Program}{w:aw}{ops:Array Oper}{rest:List Oper}{o:Oper}{a:Act}{Q:Exit→Act→aw→Prop}(hgd:o.guard=none)(s x:Operand)(t:TypeId)
  (ho:o.op= .call {callee:=.builtin .append,args:=#[s,x],argTypes:=#[t,t]}) (vs vx v':Value) (w2:aw) (hs:a.eval s=vs) (hx:a.eval x=vx)
  (hr:(Builtin.append_ #[t,t] o.type #[vs,vx]).run P w= .ok v' w2) (h:wpList P ops Q rest (a.put o.dst v') w2):wpList P ops Q (o::rest) a w:=by
 refine wpList_plain hgd λK hK=>?_;unfold Oper.wp execOp;simp only[ho,resolve,invoke,builtin,Sem.run_bind,Sem.run_pure,Result.andThen_ok,List.map_toArray,List.map_cons,List.map_nil,hs,hx,hr];exact hK _ _ h
def JN (g off cap:Nat):Addr:=if cap=1 then⟨g,off,none⟩ else⟨g,off+1,none⟩
theorem dJ.rest {w:aw}{e:TypeId}{g off n cap:Nat}{v:Value}{vs:bK}(h:dJ w e (some ⟨g,off,none⟩) (n+1) cap (v::vs)):
  dJ w e (some (JN g off cap)) n (cap-1) vs:=by
 have hl:=h.1
 rcases h.2 with⟨e0,_⟩|⟨g',kf,cur,e0,hg,hoc,uj,gw⟩
 ·cases e0
 ·cases e0
  simp at hl;refine⟨hl,.inr ?_⟩;unfold JN
  by_cases hc:cap=1
  ·rw[if_pos hc];exact⟨g,off,cur,rfl,hg,by omega,by omega,λi hi=>by omega⟩
  ·rw[if_neg hc];refine⟨g,off+1,cur,rfl,hg,by omega,by omega,λi hi=>?_⟩;have:=gw (i+1) (by omega);rw[show off+1+i=off+(i+1) by omega,this];simp
theorem dJ.over {w:aw}{e:TypeId}{g off n cap:Nat}{v x:Value}{vs:bK}(h:dJ w e (some ⟨g,off,none⟩) (n+1) cap (v::vs)):
  dJ (w.setCell ⟨g,off,none⟩ x) e (some ⟨g,off,none⟩) (n+1) cap (x::vs):=by
 have hl:=h.1
 rcases h.2 with⟨e0,_⟩|⟨g',kf,cur,e0,hg,hoc,uj,gw⟩
 ·cases e0
 ·cases e0
  refine⟨by simpa using hl,.inr ⟨g,off,cur.setIfInBounds off x,rfl,heap_setCell_same w g off cur e x hg,by simpa using hoc,uj,λi hi=>?_⟩⟩;rw[Array.getElem?_setIfInBounds];cases i with
  |zero=>rw[Nat.add_zero,if_pos rfl,if_pos (by omega)];simp
  |succ i=>
   rw[if_neg (by omega),gw (i+1) hi];simp
section
variable {P:Program} {ops:Array Oper} {Q:Exit→Act→aw→Prop} {md:Region.Mode} {G:aw→aw→Prop}
def CW (md:Region.Mode)(ops:Array Oper)(i:Nat):Bool:=
 match ops[i]? with
 |none=>false
 |some o=>(List.range ops.size).all λk=>k==i||o.after.any λe=>Region.binds md e&&e.on==k
theorem Qb {listed:Array Bool}{i j:Nat}(h:CW md ops j=true)(hj:j∈Region.ready md ops listed)(hi:i∈Region.ready md ops listed)(Ws:j≠i):False:=by
 obtain⟨_,oj,S5,il⟩:=mem_ready.1 hj;obtain⟨S6,oi,Xq,_⟩:=mem_ready.1 hi;simp only[CW,S5,List.all_eq_true,List.mem_range] at h;have dN:i<ops.size:=(gD.1 Xq).1;have h1:=h i dN;simp only[Bool.or_eq_true,beq_iff_eq] at h1
 rcases h1 with h1|h1
 ·exact Ws h1.symm
 ·obtain⟨q,hq,hb,sA⟩:∃(q:Nat) (hq:q<oj.after.size),Region.binds md oj.after[q]=true∧oj.after[q].on=i:=by simpa using h1
  have h2:=il _ (Array.getElem_mem hq) hb;rw[sA] at h2
  rcases Nat.lt_or_ge i listed.size with h'|h'
  ·simp[h'] at S6 h2;rw[S6] at h2;cases h2
  ·simp[Array.getElem?_eq_none h'] at h2
def kV (P:Program)(md:Region.Mode)(ops:Array Oper)(Q:Exit→Act→aw→Prop)(G:aw→aw→Prop):Nat→Array Bool→Act→aw→Prop
 |0,listed,a,w=>Region.ready md ops listed=[]∧Q .normal a w
 |fuel+1,listed,a,w=>
  (Region.ready md ops listed=[]→Q .normal a w)∧
  ∀i∈Region.ready md ops listed,wpOp P ops Q i (λa' w'=>(G w w'∨CW md ops i=true)∧kV P md ops Q G fuel (listed.setIfInBounds i true) a' w') a w
theorem x8:∀(fuel:Nat) (listed:Array Bool) (a:Act) (w:aw),kV P md ops Q G fuel listed a w→wpAny P md ops Q fuel listed a w
 |0,_,_,_,h=>h
 |fuel+1,_,_,_,h=>⟨h.1,λi hi=>wpOp_mono (λa' w' h'=>x8 fuel _ a' w' h'.2) (h.2 i hi)⟩
theorem vd {S S':aw→Prop}{o:Oper}{v:Value}{a:Act}(h:YieldsIf P ops S o v a)(hs:∀w,S' w→S w):YieldsIf P ops S' o v a:=by
 rcases h with⟨h1,h2⟩|h
 ·exact .inl ⟨h1,λw hw=>h2 w (hs w hw)⟩
 ·exact .inr h
theorem zm (hrefl:∀w,G w w)(ir:∀a b c,G a b→G b c→G a c){i:Nat}{oi:Oper}{v:Value}(hi:ops[i]?=some oi)(S7:∀(j:Nat) (o:Oper) cs b,ops[j]?=some o→o.op≠.select cs b)
  (hQ:∀c a w,Q (.panic c) (a.put oi.dst v) w→Q (.panic c) a w):
  ∀(fuel:Nat) (listed:Array Bool) (a:Act) (w:aw),
   (∀j oj,ops[j]?=some oj→j≠i→listed.getD j true=false→(∀e∈oj.after,Region.binds md e=true→e.on≠i)→oi.apart ops oj=true)→
   i∈Region.ready md ops listed→YieldsIf P ops (G w) oi v a→
   kV P md ops Q G fuel (listed.setIfInBounds i true) (a.put oi.dst v) w→kV P md ops Q G (fuel+1) listed a w:=by
 intro fuel
 induction fuel with
 |zero=>
  intro listed a w _ hr hy H;refine⟨λh=>(by rw[h] at hr;cases hr),λj hj=>?_⟩
  by_cases tM:j=i
  ·subst tM;exact hy.wpOp hi (hrefl w) ⟨.inl (hrefl w),H⟩
  ·have:=ready_mono hj tM;rw[H.1] at this;cases this
 |succ fuel ih=>
  intro listed a w JO hr hy H;refine⟨λh=>(by rw[h] at hr;cases hr),λj hj=>?_⟩
  by_cases tM:j=i
  ·subst tM;exact hy.wpOp hi (hrefl w) ⟨.inl (hrefl w),H⟩
  ·have h1:=H.2 j (ready_mono hj tM);obtain⟨S8,oj,S5,il⟩:=mem_ready.1 hj;have abh:∀e∈oj.after,Region.binds md e=true→e.on≠i:=λe he hb heq=>by
    have h1:=il e he hb;have h0:=(mem_ready.1 hr).1;rw[heq] at h1
    rcases Nat.lt_or_ge i listed.size with h'|h'
    ·simp[h'] at h0 h1;rw[h0] at h1;cases h1
    ·simp[Array.getElem?_eq_none h'] at h1
   have h2:=wpOp_putIf S5 (JO j oj S5 tM S8 abh) (λcs b=>S7 i oi cs b hi) (λcs b=>S7 j oj cs b S5) hQ hy h1;have Mq:∀k ok,ops[k]?=some ok→k≠i→(listed.setIfInBounds j true).getD k true=false→
     (∀e∈ok.after,Region.binds md e=true→e.on≠i)→oi.apart ops ok=true:=λk ok hk sM ZR hno=>by
    refine JO k ok hk sM ?_ hno
    by_cases hjk:j=k
    ·subst hjk;exact S8
    ·rw[getD_set_ne true hjk] at ZR;exact ZR
   refine wpOp_mono (λa' w' h3=>?_) h2;have hG:G w w':=h3.2.1.resolve_right (λhe=>Qb he hj hr tM);refine⟨.inl hG,ih (listed.setIfInBounds j true) a' w' Mq (ready_mono hr (Ne.symm tM)) (vd h3.1 (λw2 JP=>ir _ _ _ hG JP)) ?_⟩;rw[Array.setIfInBounds_comm _ _ tM];exact h3.2.2
def dW (P:Program)(ops:Array Oper)(Q:Exit→Act→aw→Prop)(G:aw→aw→Prop)(K:Act→aw→Prop):List (Nat×Bool)→Act→aw→Prop
 |[],a,w=>K a w
 |(i,b)::r,a,w=>∃o,ops[i]?=some o∧
  ((Region.wanted o (yielded ops a.tmps)=false∧dW P ops Q G K r (a.put o.dst ag) w)∨
   (Region.wanted o (yielded ops a.tmps)=true∧
    ((∃v,(∀w',G w w'→(execOp a.eval o).run P w'= .ok (.value v) w')∧dW P ops Q G K r (a.put o.dst v) w)∨
    (b=false∧o.wp P a w (λa' w'=>(G w w'∨CW .any ops i=true)∧dW P ops Q G K r a' w') Q))))
def jJ (md:Region.Mode)(ops:Array Oper):List (Nat×Bool)→Array Bool→Option (Array Bool)
 |[],listed=>some listed
 |(i,b)::r,listed=>if(bif b then(Region.ready md ops listed).contains i&&Region.free md ops listed i else Region.ready md ops listed==[i]&&Region.free md ops listed i) then jJ md ops r (listed.setIfInBounds i true) else none
theorem rI {md:Region.Mode}(hmd:md= .any)(hrefl:∀w,G w w)(ir:∀a b c,G a b→G b c→G a c)(hs:Region.noSelect ops=true)(hQ:∀c a w d v,Q (.panic c) (a.put d v) w→Q (.panic c) a w)(fuel:Nat)(nC:Array Bool):
  ∀(s:List (Nat×Bool)) (listed:Array Bool) (a:Act) (w:aw),jJ md ops s listed=some nC→
   dW P ops Q G (λa w=>kV P md ops Q G fuel nC a w) s a w→kV P md ops Q G (fuel+s.length) listed a w
 |[],listed,a,w,h,H=>by simp only[jJ,Option.some.injEq] at h;subst h;exact H
 |(i,b)::r,listed,a,w,h,H=>by
  obtain⟨o,ho,H⟩:=H;unfold jJ at h;split at h
  case isFalse=>cases h
  rename_i hc
  have Mp:i∈Region.ready md ops listed∧Region.free md ops listed i=true∧(b=false→Region.ready md ops listed=[i]):=by
   cases b
   ·simp only[cond_false,Bool.and_eq_true,beq_iff_eq] at hc;exact⟨by rw[hc.1];simp,hc.2,λ_=>hc.1⟩
   ·simp only[cond_true,Bool.and_eq_true] at hc;exact⟨by simpa using hc.1,hc.2,λe=>by cases e⟩
  obtain⟨hr,hf,JQ⟩:=Mp;have ih:=λa w H=>rI hmd hrefl ir hs hQ fuel nC r (listed.setIfInBounds i true) a w h H;show kV P md ops Q G ((fuel+r.length)+1) listed a w
  rcases H with⟨hw,H⟩|⟨hw,⟨v,hv,H⟩|⟨hb,H⟩⟩
  ·exact zm hrefl ir ho (Region.noSelect_spec hs) (λc a w=>hQ c a w _ _) _ listed a w (Region.free_spec ho hf) hr (.inr ⟨hw,rfl⟩) (ih _ _ H)
  ·exact zm hrefl ir ho (Region.noSelect_spec hs) (λc a w=>hQ c a w _ _) _ listed a w (Region.free_spec ho hf) hr (.inl ⟨hw,hv⟩) (ih _ _ H)
  ·refine⟨λh0=>absurd h0 (by rw[JQ hb];simp),λj hj=>?_⟩;rw[JQ hb] at hj;simp only[List.mem_singleton] at hj;subst hj;unfold wpOp;simp only[ho,hw,if_true];exact .inl (Oper.wp_mono (λa' w' h'=>⟨by rw[hmd];exact h'.1,ih a' w' h'.2⟩) H)
theorem BP {id:Nat}{a:Act}{w:aw}(hm:P.follows .mixedOrders=true)(hrefl:∀w,G w w)(ir:∀a b c,G a b→G b c→G a c)(hs:Region.noSelect ops=true)
  (hQ:∀c a w d v,Q (.panic c) (a.put d v) w→Q (.panic c) a w) (s:List (Nat×Bool)) (jH:s.length=ops.size)
  (JR:((jJ .any ops s (Array.replicate ops.size false)).map λl=>(Region.ready .any ops l).isEmpty)=some true)
  (h:dW P ops Q G (λa w=>Q .normal a w) s a {w with drawn:=w.drawn+1}):(Code.region id ops true).wp P Q a w:=by
 cases hx:jJ .any ops s (Array.replicate ops.size false) with
 |none=>rw[hx] at JR;cases JR
 |some l=>
  rw[hx] at JR;have Mr:Region.ready .any ops l=[]:=by simpa using JR
  have hK:∀a w,Q .normal a w→kV P .any ops Q G 0 l a w:=λa w hq=>⟨Mr,hq⟩;have Ta:∀(s:List (Nat×Bool)) a w,dW P ops Q G (λa w=>Q .normal a w) s a w→dW P ops Q G (λa w=>kV P .any ops Q G 0 l a w) s a w:=by
   intro s
   induction s with
   |nil=>intro a w h;exact hK a w h
   |cons x r ih=>
    intro a w ⟨o,ho,H⟩;refine⟨o,ho,?_⟩
    rcases H with⟨hw,H⟩|⟨hw,⟨v,hv,H⟩|⟨hb,H⟩⟩
    ·exact .inl ⟨hw,ih _ _ H⟩
    ·exact .inr ⟨hw,.inl ⟨v,hv,ih _ _ H⟩⟩
    ·exact .inr ⟨hw,.inr ⟨hb,Oper.wp_mono (λa' w' h'=>⟨h'.1,ih _ _ h'.2⟩) H⟩⟩
  have:=rI rfl hrefl ir hs hQ 0 l s (Array.replicate ops.size false) a _ hx (Ta s a _ h);rw[Nat.zero_add,jH] at this;exact wp_region_any hm (x8 _ _ _ _ this)
theorem ah {id:Nat}{a:Act}{w:aw}(hm:P.follows .mixedOrders=true)(hrefl:∀w,G w w)(ir:∀a b c,G a b→G b c→G a c)(hs:Region.noSelect ops=true)
  (s:List (Nat×Bool)) (jH:s.length=ops.size)
  (JR:((jJ .any ops s (Array.replicate ops.size false)).map λl=>(Region.ready .any ops l).isEmpty)=some true)
  (h:∀K:Act→aw→Prop,ae (∀a w,Q .normal a w→K a w)→dW P ops (NoPanic Q) G K s a w.drew):(Code.region id ops true).wp P Q a w:=
 wp_region_noPanic (BP hm hrefl ir hs (λ_ _ _ _ _ h=>h) s jH JR (h _ (λ_ _ h=>h)))
theorem G7 {K K':Act→aw→Prop}(h:∀a w,K a w→K' a w):∀(s:List (Nat×Bool)) a w,dW P ops Q G K s a w→dW P ops Q G K' s a w:=by
 intro s
 induction s with
 |nil=>intro a w H;exact h a w H
 |cons x r ih=>
  intro a w ⟨o,ho,H⟩;refine⟨o,ho,?_⟩
  rcases H with⟨hw,H⟩|⟨hw,⟨v,hv,H⟩|⟨hb,H⟩⟩
  ·exact .inl ⟨hw,ih _ _ H⟩
  ·exact .inr ⟨hw,.inl ⟨v,hv,ih _ _ H⟩⟩
  ·exact .inr ⟨hw,.inr ⟨hb,Oper.wp_mono (λa' w' h'=>⟨h'.1,ih _ _ h'.2⟩) H⟩⟩
theorem rJ {id:Nat}{a:Act}{w:aw}(hm:P.follows .mixedOrders=true)(hrefl:∀w,G w w)(ir:∀a b c,G a b→G b c→G a c)(hs:Region.noSelect ops=true)
  (s:List (Nat×Bool)) (fuel:Nat) (nC:Array Bool) (jH:fuel+s.length=ops.size) (JR:jJ .any ops s (Array.replicate ops.size false)=some nC)
  (h:∀K:Act→aw→Prop,ae (∀a w,kV P .any ops (NoPanic Q) G fuel nC a w→K a w)→dW P ops (NoPanic Q) G K s a w.drew):(Code.region id ops true).wp P Q a w:=by
 refine wp_region_noPanic (wp_region_any hm (x8 (G:=G) _ _ _ _ ?_));have:=rI (Q:=NoPanic Q) rfl hrefl ir hs (λ_ _ _ _ _ h=>h) fuel nC s (Array.replicate ops.size false) a w.drew JR (h _ (λ_ _ h=>h));rw[jH] at this;exact this
theorem eK {fuel:Nat}{listed:Array Bool}{a:Act}{w:aw}(hrefl:∀w,G w w)(ir:∀a b c,G a b→G b c→G a c)(hs:Region.noSelect ops=true)
  (s:List (Nat×Bool)) (jH:s.length=fuel) (JR:((jJ .any ops s listed).map λl=>(Region.ready .any ops l).isEmpty)=some true)
  (h:∀K:Act→aw→Prop,ae (∀a w,Q .normal a w→K a w)→dW P ops (NoPanic Q) G K s a w):kV P .any ops (NoPanic Q) G fuel listed a w:=by
 cases hx:jJ .any ops s listed with
 |none=>rw[hx] at JR;cases JR
 |some l=>
  rw[hx] at JR;have Mr:Region.ready .any ops l=[]:=by simpa using JR
  have:=rI (Q:=NoPanic Q) rfl hrefl ir hs (λ_ _ _ _ _ h=>h) 0 l s listed a w hx (G7 (λa w hq=>⟨Mr,hq⟩) s a w (h (λa w=>Q .normal a w) (λ_ _ h=>h)));rw[Nat.zero_add,jH] at this;exact this
theorem Qc {md:Region.Mode}{fuel i j:Nat}{listed:Array Bool}{oi oj:Oper}{a:Act}{w:aw}(hr:Region.ready md ops listed=[i,j])(hi:ops[i]?=some oi)(hwi:Region.wanted oi (yielded ops a.tmps)=true)
  (hj:ops[j]?=some oj) (hwj:Region.wanted oj (yielded ops a.tmps)=true)
  (hI:oi.wp P a w (λa' w'=>G w w'∧kV P md ops Q G fuel (listed.setIfInBounds i true) a' w') Q) (hJ:oj.wp P a w (λa' w'=>G w w'∧kV P md ops Q G fuel (listed.setIfInBounds j true) a' w') Q):
  kV P md ops Q G (fuel+1) listed a w:=by
 refine⟨λh=>(by rw[hr] at h;cases h),λk hk=>?_⟩;rw[hr] at hk;simp only[mg,nj,or_false] at hk
 rcases hk with rfl|rfl
 ·unfold wpOp;simp only[hi,hwi,if_true];exact .inl (Oper.wp_mono (λa' w' h=>⟨.inl h.1,h.2⟩) hI)
 ·unfold wpOp;simp only[hj,hwj,if_true];exact .inl (Oper.wp_mono (λa' w' h=>⟨.inl h.1,h.2⟩) hJ)
theorem bf {o:Oper}{a:Act}{w:aw}{K:Act→aw→Prop}{f:FuncId}{args:Array Value}(x9:(execOp a.eval o).run P w= .ok (.enter f args) w)
  (hc:Calls P f args w λe w'=>∃v,e= .returned v∧K (a.put o.dst v) w'):o.wp P a w K Q:=by
 unfold Oper.wp;rw[x9];simp only[Oper.upon];refine hc.mono ?_;rintro e w' ⟨v,rfl,h⟩;exact h
theorem av {o:Oper}{a:Act}{w w':aw}{K:Act→aw→Prop}{v:Value}(x9:(execOp a.eval o).run P w= .ok (.value v) w')(h:K (a.put o.dst v) w'):o.wp P a w K Q:=by unfold Oper.wp;rw[x9];exact h
variable {K:Act→aw→Prop} {r:List (Nat×Bool)} {i:Nat} {b:Bool} {o:Oper} {a:Act} {w:aw}
theorem dw (ho:ops[i]?=some o)(hw:Region.wanted o (yielded ops a.tmps)=false)(h:dW P ops Q G K r (a.put o.dst ag) w):dW P ops Q G K ((i,b)::r) a w:=⟨o,ho,.inl ⟨hw,h⟩⟩
theorem aa {v:Value}(ho:ops[i]?=some o)(hw:Region.wanted o (yielded ops a.tmps)=true)(hv:∀w',G w w'→(execOp a.eval o).run P w'= .ok (.value v) w')(h:dW P ops Q G K r (a.put o.dst v) w):
  dW P ops Q G K ((i,b)::r) a w:=⟨o,ho,.inr ⟨hw,.inl ⟨v,hv,h⟩⟩⟩
theorem aU {f:FuncId}{args:Array Value}(ho:ops[i]?=some o)(hw:Region.wanted o (yielded ops a.tmps)=true)(x9:(execOp a.eval o).run P w= .ok (.enter f args) w)
  (hc:Calls P f args w λe w'=>∃v,e= .returned v∧G w w'∧dW P ops Q G K r (a.put o.dst v) w'):dW P ops Q G K ((i,false)::r) a w:=by
 refine⟨o,ho,.inr ⟨hw,.inr ⟨rfl,?_⟩⟩⟩;unfold Oper.wp;rw[x9];simp only[Oper.upon];refine hc.mono ?_;rintro e w' ⟨v,rfl,hG,h⟩;exact⟨.inl hG,h⟩
theorem fZ {v:Value}{w':aw}(ho:ops[i]?=some o)(hw:Region.wanted o (yielded ops a.tmps)=true)(x9:(execOp a.eval o).run P w= .ok (.value v) w')(hG:G w w')(h:dW P ops Q G K r (a.put o.dst v) w'):
  dW P ops Q G K ((i,false)::r) a w:=by
 refine⟨o,ho,.inr ⟨hw,.inr ⟨rfl,?_⟩⟩⟩;unfold Oper.wp;rw[x9];exact⟨.inl hG,h⟩
theorem bp {w':aw}(ho:ops[i]?=some o)(hw:Region.wanted o (yielded ops a.tmps)=true)(x9:(execOp a.eval o).run P w= .ok .skip w')(he:CW .any ops i=true)(h:dW P ops Q G K r (a.put o.dst ag) w'):
  dW P ops Q G K ((i,false)::r) a w:=by
 refine⟨o,ho,.inr ⟨hw,.inr ⟨rfl,?_⟩⟩⟩;unfold Oper.wp;rw[x9];exact⟨.inr he,h⟩
theorem ki {s x:Operand}{t:TypeId}{vs vx v:Value}{w2:aw}(ho:ops[i]?=some o)(hw:Region.wanted o (yielded ops a.tmps)=true)
  (JS:o.op= .call {callee:=.builtin .append,args:=#[s,x],argTypes:=#[t,t]}) (hs:a.eval s=vs) (hx:a.eval x=vx)
  (hr:(Builtin.append_ #[t,t] o.type #[vs,vx]).run P w= .ok v w2) (hG:G w w2) (h:dW P ops Q G K r (a.put o.dst v) w2):
  dW P ops Q G K ((i,false)::r) a w:=by
 refine fZ ho hw ?_ hG h;unfold execOp;simp only[JS,resolve,invoke,builtin,Sem.run_bind,Sem.run_pure,Result.andThen_ok,List.map_toArray,List.map_cons,List.map_nil,hs,hx,hr]
theorem az {Q':Exit→Act→aw→Prop}(hK:ae (∀a w,Q' .normal a w→K a w))(h:Q' .normal a w):dW P ops Q G K [] a w:=hK.out a w h
end
set_option linter.unusedVariables false
def bM (w w':aw):Prop:=Below w.heap.size w w'
theorem bM.refl (w:aw):bM w w:=bZ _ _
theorem bM.trans (a b c:aw)(h:bM a b)(k:bM b c):bM a c:=Below.trans h (Below.mono k h.size)
theorem bj.on {w w':aw}{a:bW}{len:Nat}{l:aO}(h:bj w a len l)(hb:bM w w'):bj w' a len l:=h.later hb
theorem bj.gS {w:aw}{e:TypeId}{a:bW}{n cap:Nat}{l:aO}(h:dJ w e a n cap (l.map bv)):bj w a n l:=by
 have hl:l.length=n:=by have:=h.1;simpa using this
 refine⟨hl,?_⟩
 by_cases h0:n=0
 ·exact .inl h0
 ·obtain⟨g,off,rfl,_,_⟩:=h.cell 0 (by omega);refine .inr ⟨g,off,rfl,λi hi=>?_⟩;obtain⟨g',kf,e,hc,_⟩:=h.cell i hi;cases e
  rw[hc,List.getElem?_map,cP l i (by omega)];simp[bv,show i<l.length by omega]
theorem dJ.Ms {w:aw}{base:Nat}{e:TypeId}{v:Value}{n:Nat}{xs:bK}(h:w.ownsRow base e 1 v n xs):
  ∃a cap,v= .slice a n cap∧dJ w e a n cap xs∧∀j,bL a=some j→base≤j:=by
 rcases h.2 with⟨rfl,rfl⟩|⟨g,cap,cur,rfl,hb,hg,uj,m7,gw,FP⟩
 ·exact⟨none,0,rfl,⟨by have:=h.1;simpa using this,.inl ⟨rfl,rfl,rfl⟩⟩,by intro j hj;simp[bL] at hj⟩
 ·refine⟨some ⟨g,0,none⟩,cap,rfl,⟨by have:=h.1;omega,.inr ⟨g,0,cur,rfl,hg,by omega,uj,λi hi=>?_⟩⟩,by intro j hj;simp[bL] at hj;omega⟩;rw[←FP,List.getElem?_take,if_pos (by omega)];simp
theorem aaz (w:aw)(a:bW)(len cap:Nat)(l:aO)(hB:bj w a len l)(rk:a=none→cap=0)(hm:len≤1000000):
  ∃a' cK w2,(Builtin.append_ #[22,22] 22 #[.slice (some ⟨w.heap.size,0,none⟩) 0 0,.slice a len cap]).run prog (w.alloc (.cells #[] 5))= .ok (.slice a' len cK) w2∧
   dJ w2 5 a' len cK (l.map bv)∧Below w.heap.size w w2∧∀j,bL a'=some j→w.heap.size≤j:=by
 obtain⟨i0,hi,uf,pH,uZ⟩:=info_parts Tryz.infoU8;have fe:Below w.heap.size w (w.alloc (.cells #[] 5)):=eF;have ff:(w.alloc (.cells #[] 5)).ownsRow w.heap.size 5 1 (.slice (some ⟨w.heap.size,0,none⟩) 0 0) 0 []:=World.ownsRow_made w #[] 0 (di _) (Nat.zero_le _) rfl;have hl:=hB.1;cases a with
 |none=>
  have h0:len=0:=by
   rcases hB.2 with h|⟨_,_,e,_⟩
   ·exact h
   ·cases e
  have kt:=rk rfl;subst h0;subst kt;obtain rfl:l=[]:=List.eq_nil_of_length_eq_zero hl;have hr:=run_append_owned_none (P:=prog) (w.alloc (.cells #[] 5)) w.heap.size 22 22 5 i0 1 underlying22 hi _ 0 [] ff;obtain⟨a',cK,e,vE,hb⟩:=dJ.Ms ff;exact⟨a',cK,_,by rw[hr,e],vE,fe,hb⟩
 |some x=>
  obtain⟨v',w2,hr,OJ,cL,_⟩:=run_append_own (P:=prog) (w.alloc (.cells #[] 5)) w.heap.size 22 22 5 i0 (.int .u8 0) 1 1 underlying22 hi uf pH uZ rfl (by decide) _ 0 [] ff x len cap (l.map bv) (by simpa using hl) ((hB.later fe).cells x rfl) (bd l) (by unfold maxLen;omega) (by omega) (by simp);rw[Nat.zero_add,List.nil_append] at OJ;obtain⟨a',cK,rfl,vE,hb⟩:=dJ.Ms OJ;exact⟨a',cK,w2,hr,vE,fe.grown cL (by simp) (by intro k hk;simp[Value.ownBlock] at hk;omega),hb⟩
theorem jK (w:aw)(l:aO)(b:Nat)(cs:Array Value)(e:TypeId)(fr:Nat×Nat)(h:w.heap[b]?=some (.cells cs e fr))(hc:cs=(l.map bv).toArray):bj w (some ⟨b,0,none⟩) l.length l:=by refine⟨rfl,.inr ⟨b,0,rfl,λi hi=>?_⟩⟩;rw[cell_of_row w b (0+i) cs e fr h,Nat.zero_add,hc,cP l i hi];simp[bv,hi]
theorem dJ.abi {w:aw}{e:TypeId}{x:Addr}{n cap:Nat}{vs:bK}(h:dJ w e (some x) n cap vs):∀j v,vs[j]?=some v→w.cell? (x.add j)=some v:=by
 intro j v hj;have hl:=h.1;have hjn:j<n:=by
  rcases Nat.lt_or_ge j vs.length with hh|hh
  ·omega
  ·rw[List.getElem?_eq_none hh] at hj;cases hj
 obtain⟨g,off,e,hc,_⟩:=h.cell j hjn;cases e
 rw[addr_add,hc,hj]
theorem cG {w w':aw}(h:Below w.heap.size w w'):w.grownBy w' none:=⟨h.os,h.tape,h.output,h.size,λk hk _=>h.block k hk⟩
theorem gO {w:aw}{base:Nat}{e:TypeId}{v:Value}{n:Nat}{xs:bK}(h:w.ownsRow base e 1 v n xs)(hn:0<n):
  ∃g cap,v= .slice (some ⟨g,0,none⟩) n cap∧base≤g∧dJ w e (some ⟨g,0,none⟩) n cap xs:=dJ.jT h hn
theorem bj.below {w w':aw}{B:Nat}{b off n:Nat}{l:aO}(h:bj w (some ⟨b,off,none⟩) n l)(hbB:b<B)(hb:Below B w w'):bj w' (some ⟨b,off,none⟩) n l:=by
 refine⟨h.1,?_⟩
 rcases h.2 with h0|⟨b',kf,e,hc⟩
 ·exact .inl h0
 ·cases e
  refine .inr ⟨b,off,rfl,λi hi=>?_⟩;rw[hb.cell (p:=⟨b,off+i,none⟩) hbB];exact hc i hi
theorem bj.lt {w:aw}{b off n:Nat}{l:aO}(h:bj w (some ⟨b,off,none⟩) n l)(hn:0<n):b<w.heap.size:=by
 rcases h.2 with h0|⟨b',kf,e,hc⟩
 ·omega
 ·cases e
  exact World.block_lt_of_cell? w _ (hc 0 hn)
theorem cI (w:aw)(base:Nat)(v:Value)(n:Nat)(xs:aO)(ff:w.ownsRow base 5 1 v n (xs.map bv))(x:Addr)(m c:Nat)(ys:aO)(hs:bj w (some x) m ys)(hb:base≤w.heap.size)(xH:n+m≤1000000):
  ∃v' w',(Builtin.append_ #[22,22] 22 #[v,.slice (some x) m c]).run prog w= .ok v' w'∧w'.ownsRow base 5 1 v' (n+m) ((xs++ys).map bv)∧w.grownBy w' v.ownBlock:=by
 obtain⟨i0,hi,uf,pH,uZ⟩:=info_parts Tryz.infoU8;have hl:=hs.1;obtain⟨v',w',hr,ho,hg,_⟩:=run_append_own (P:=prog) w base 22 22 5 i0 (.int .u8 0) 1 1 underlying22 hi uf pH uZ rfl (by decide) v n _ ff x m c (ys.map bv) (by rw[List.length_map];omega) (hs.cells x rfl) (bd ys) (by unfold maxLen;omega) (by omega) hb;exact⟨v',w',hr,by rw[List.map_append];exact ho,hg⟩
theorem bj.sub {w:aw}{b off len n q:Nat}{l:aO}(h:bj w (some ⟨b,off,none⟩) len l)(h1:n≤q)(h2:q≤len):bj w (some ⟨b,off+n,none⟩) (q-n) ((l.drop n).take (q-n)):=by
 have hl:=h.1;refine⟨by simp;omega,?_⟩
 rcases h.2 with h0|⟨b',kf,e,hc⟩
 ·exact .inl (by omega)
 ·cases e
  refine .inr ⟨b,off+n,rfl,λi hi=>?_⟩;rw[Nat.add_assoc,hc (n+i) (by omega)];simp[at8,hi]
theorem dJ.set {w:aw}{e:TypeId}{g off n cap:Nat}{vs:bK}(h:dJ w e (some ⟨g,off,none⟩) n cap vs)(i:Nat)(hi:i<n)(v:Value):
  dJ (w.setCell ⟨g,off+i,none⟩ v) e (some ⟨g,off,none⟩) n cap (vs.set i v):=by
 refine⟨by rw[List.length_set];exact h.1,?_⟩;have hl:=h.1
 rcases h.2 with⟨e0,_⟩|⟨g',kf,cur,e0,hg,h1,h2,h3⟩
 ·cases e0
 ·cases e0
  refine .inr ⟨g,off,cur.setIfInBounds (off+i) v,rfl,heap_setCell_same w g (off+i) cur e v hg,by simpa using h1,h2,λj hj=>?_⟩;rw[Array.getElem?_setIfInBounds,List.getElem?_set]
  by_cases Ws:i=j
  ·subst Ws;rw[if_pos rfl,if_pos (by omega),if_pos rfl,if_pos (by omega)]
  ·rw[if_neg (by omega),if_neg Ws,h3 j hj]
theorem dJ.drew {w:aw}{e:TypeId}{a:bW}{n cap:Nat}{vs:bK}(h:dJ w e a n cap vs):dJ w.drew e a n cap vs:=h.kept λg _=>rfl
def bX (w w':aw):Prop:=w'=w
theorem bX.refl (w:aw):bX w w:=rfl
theorem bX.trans (a b c:aw)(h:bX a b)(k:bX b c):bX a c:=by unfold bX at*;rw[k,h]
def bI (g:Nat)(w w':aw):Prop:=w.grownBy w' (some g)
theorem jq (w:aw)(b:Option Nat):w.grownBy w.drew b:=⟨rfl,rfl,rfl,di _,λ_ _ _=>rfl⟩
theorem cR (w:aw)(b:Option Nat):w.grownBy w b:=⟨rfl,rfl,rfl,di _,λ_ _ _=>rfl⟩
theorem bI.refl (g:Nat)(w:aw):bI g w w:=cR w _
theorem bI.trans (g:Nat)(a b c:aw)(h:bI g a b)(k:bI g b c):bI g a c:=World.grownBy.trans h k
theorem bj.but {w w':aw}{b off n g:Nat}{l:aO}(h:bj w (some ⟨b,off,none⟩) n l)(hg:w.grownBy w' (some g))(hb:b≠g):bj w' (some ⟨b,off,none⟩) n l:=by
 refine⟨h.1,?_⟩
 rcases h.2 with h0|⟨b',kf,e,hc⟩
 ·exact .inl h0
 ·cases e
  exact .inr ⟨b,off,rfl,λi hi=>hg.cell (hc i hi) (λe=>hb (by cases e;rfl))⟩
theorem xf {W:aw}{b t:Nat}{l:aO}(n:Nat)(hn:l.length=n)(h:W.heap[b]?=some (.cells (l.map bv).toArray t (0,0))):bj W (some ⟨b,0,none⟩) n l:=by refine⟨hn,.inr ⟨b,0,rfl,λi hi=>?_⟩⟩;rw[cell_of_row W b (0+i) _ t (0,0) h,cP l i (by omega)];simp[show i<l.length by omega,bv]
theorem aL (W:aw)(g:Nat)(t:TypeId)(old:Array Value)(vs:bK)(h:W.heap[g]?=some (.cells old t (0,0)))(hl:vs.length=old.size)(h1:∀v∈vs,v.oneCell'=true):
  (storeCells ⟨g,0,none⟩ vs).run prog W= .ok () (W.setRow g vs.toArray):=by
 have:=run_storeCells_from (P:=prog) g t vs 0 old W h (by omega) h1
 simpa using this
theorem bY {P R:aw→Prop}(W:aw)(h:R W)(H:∀W0,R W0→P W0):P W:=H W h
theorem bI.below {w w':aw}(g:Nat)(hb:Below w.heap.size w w'):bI g w w':=⟨hb.os,hb.tape,hb.output,hb.size,λk hk _=>hb.block k hk⟩
theorem bI.setRow (w:aw)(g:Nat)(cs:Array Value):bI g w (w.setRow g cs):=⟨rfl,rfl,rfl,by simp[World.setRow],λk hk eL=>setRow_other w g k cs (λe=>eL (by rw[e]))⟩
theorem Aq (w:aw)(n:Nat)(h:n≤2000000):
  ∃Z:bK,Z.length=n∧(Instr.makeSlice 22 (.int .i64 0) (.int .i64 (n:Int))).run prog w= .ok (.slice (some ⟨w.heap.size,0,none⟩) 0 n) (w.alloc (.cells Z.toArray 5)):=by
 have:=CO w 0 n (by omega)
 simpa using this
def Rest (v:Value)(w w':aw):Prop:=w.grownBy w' v.ownBlock
theorem Rest.refl (v:Value)(w:aw):Rest v w w:=cR w _
theorem Rest.trans (v:Value)(a b c:aw)(h:Rest v a b)(k:Rest v b c):Rest v a c:=World.grownBy.trans h k
theorem Rest.below (v:Value){w w':aw}(hb:Below w.heap.size w w'):Rest v w w':=⟨hb.os,hb.tape,hb.output,hb.size,λk hk _=>hb.block k hk⟩
theorem Xr {w:aw}{base:Nat}{v:Value}{n:Nat}{l:aO}(h:w.ownsRow base 5 1 v n (l.map bv)):
  ∃a cap,v= .slice a n cap∧bj w a n l∧n≤cap∧cap≤maxLen:=by
 have hl:=h.1;rw[List.length_map,Nat.mul_one] at hl
 rcases h.2 with⟨e,h0⟩|⟨g,cap,cur,rfl,hb,hg,uj,m7,gw,FP⟩
 ·refine⟨none,0,?_,⟨hl,.inl h0⟩,by omega,by omega⟩;rw[e,h0]
 ·exact⟨_,cap,rfl,bj.jT h,uj,m7⟩
theorem cJ (w:aw)(t:TypeId)(B:aO)(n:Nat)(hn:B.length=n)(hi:(prog.info? t).map (·.size)=some n)(c:Array Value)(hc:c.size=n):
  (storeCells ⟨w.heap.size,0,none⟩ (B.map bv)).run prog (w.alloc (.cells c t))= .ok () (w.alloc (.cells (B.map bv).toArray t)):=by
 have:=run_storeCells_new (P:=prog) w t c (B.map bv).toArray (by rw[hi];simp[hn]) (by simp[hc,hn]) (by rw[Array.all_eq_true_iff_forall_mem];intro u hu;simp only[List.mem_toArray] at hu;exact bd B u hu)
 exact this
theorem ar {P:Program}{o:Oper}{a:Act}{w:aw}(ty:TypeId)(x:Operand)(ho:o.op= .load ty x)(g:Nat)(hx:a.eval x= .pointer (some ⟨g,0,none⟩))(t:TypeId)(cs:Array Value)(fr:Nat×Nat)(d:TypeDesc)(hg:w.heap[g]?=some (.cells cs t fr))
  (hu:P.underlying ty=some d) (hd:(match d with| .struct _| .array _ _=>true|_=>false)=true) (hi:(P.info? ty).map (·.size)=some cs.size):(execOp a.eval o).run P w= .ok (.value (.agg cs)) w:=by
 unfold execOp;simp only[ho,hx,Instr.loadAt,Instr.sureAddr,Sem.run_bind,Sem.run_pure,Result.andThen_ok,run_loadVar_row w g t ty cs fr d hg hu hd hi]
theorem bj.cut {w:aw}{a:bW}{len q:Nat}{l:aO}(h:bj w a len l)(hq:q≤len):bj w a q (l.take q):=by
 have hl:=h.1;refine⟨by simp;omega,?_⟩
 rcases h.2 with h0|⟨b,off,e,hc⟩
 ·exact .inl (by omega)
 ·refine .inr ⟨b,off,e,λi hi=>?_⟩;rw[hc i (by omega)];simp[at8,hi]
theorem bj.at_ {w:aw}{a:bW}{len:Nat}{l:aO}(h:bj w a len l)(k:Nat)(hk:k<len):∃b off,a=some ⟨b,off,none⟩∧w.cell? ⟨b,off+k,none⟩=some (.int .u8 ((at8 l k).toNat:Int)):=by
 rcases h.2 with h0|⟨b,off,e,hc⟩
 ·omega
 ·exact⟨b,off,e,hc k hk⟩
theorem bQ {w:aw}{base ZT:Nat}{e:TypeId}{v:Value}{n:Nat}{xs:bK}(h:w.ownsRow base e 1 v n xs)(hb:ZT≤base):w.ownsRow ZT e 1 v n xs:=by
 refine⟨h.1,?_⟩
 rcases h.2 with h0|⟨g,cap,cur,e1,pW,h2⟩
 ·exact .inl h0
 ·exact .inr ⟨g,cap,cur,e1,kx hb pW,h2⟩
theorem bq {w:aw}{base:Nat}{v:Value}{n:Nat}{l:aO}(h:w.ownsRow base 5 1 v n (l.map bv)):
  ∃a cap,v= .slice a n cap∧bj w a n l∧n≤cap∧cap≤maxLen∧(a=none→cap=0):=by
 have hl:=h.1;rw[List.length_map,Nat.mul_one] at hl
 rcases h.2 with⟨e,h0⟩|⟨g,cap,cur,rfl,hb,hg,uj,m7,gw,FP⟩
 ·refine⟨none,0,?_,⟨hl,.inl h0⟩,by omega,by omega,λ_=>rfl⟩;rw[e,h0]
 ·exact⟨_,cap,rfl,bj.jT h,uj,m7,λe=>by cases e⟩
theorem bx (w:aw)(base:Nat)(v:Value)(n:Nat)(xs:aO)(ff:w.ownsRow base 5 1 v n (xs.map bv))(a:bW)(len cap:Nat)(l:aO)(hB:bj w a len l)(rk:a=none→cap=0)(hb:base≤w.heap.size)(xH:n+len≤1000000):
  ∃v' w',(Builtin.append_ #[22,22] 22 #[v,.slice a len cap]).run prog w= .ok v' w'∧w'.ownsRow base 5 1 v' (n+len) ((xs++l).map bv)∧w.grownBy w' v.ownBlock:=by
 cases a with
 |some x=>exact cI w base v n xs ff x len cap l hB hb xH
 |none=>
  have h0:len=0:=by
   rcases hB.2 with h0|⟨b',kf,e,_⟩
   ·exact h0
   ·cases e
  subst h0;have hl:l=[]:=List.eq_nil_of_length_eq_zero hB.1;subst hl;rw[rk rfl];obtain⟨i0,hi,uf,pH,uZ⟩:=info_parts Tryz.infoU8;refine⟨v,w,run_append_owned_none (P:=prog) w base 22 22 5 i0 1 underlying22 hi v n _ ff,by rw[List.append_nil];exact ff,cR w _⟩
def dz (w:aw)(g:Nat)(t:TypeId)(l:aO):Prop:=w.heap[g]?=some (.cells (l.map bv).toArray t (0,0))
theorem dz.lt {w:aw}{g:Nat}{t:TypeId}{l:aO}(h:dz w g t l):g<w.heap.size:=(gD.1 h).1
theorem dz.later {w w':aw}{g:Nat}{t:TypeId}{l:aO}(h:dz w g t l)(hb:Below w.heap.size w w'):dz w' g t l:=by unfold dz;rw[hb.block g h.lt];exact h
theorem dz.below {B:Nat}{w w':aw}{g:Nat}{t:TypeId}{l:aO}(h:dz w g t l)(hb:Below B w w')(hg:g<B):dz w' g t l:=by unfold dz;rw[hb.block g hg];exact h
theorem dz.set {w:aw}{g:Nat}{t:TypeId}{l:aO}(h:dz w g t l)(i:Nat)(x:UInt8):dz (w.setCell ⟨g,i,none⟩ (.int .u8 (x.toNat:Int))) g t (l.set i x):=by
 have:=heap_setCell_same w g i _ _ (bv x) h;unfold dz;rw[List.map_set]
 simpa[bv] using this
theorem dz.other {w:aw}{g g':Nat}{t:TypeId}{l:aO}(h:dz w g t l)(eL:g≠g')(i:Nat)(v:Value):dz (w.setCell ⟨g',i,none⟩ v) g t l:=by unfold dz;rw[heap_setCell_other w ⟨g',i,none⟩ g v eL];exact h
theorem dz.at_ {w:aw}{g:Nat}{t:TypeId}{l:aO}(h:dz w g t l)(i:Nat)(hi:i<l.length):w.cell? ⟨g,i,none⟩=some (.int .u8 ((at8 l i).toNat:Int))∧w.frozen? ⟨g,i,none⟩=false:=by refine⟨?_,frozen_of_row w g i _ _ h⟩;rw[cell_of_row w g i _ _ (0,0) h,cP l i hi];simp[hi,bv]
theorem dz.nw {w:aw}{g:Nat}{t:TypeId}{l:aO}(h:dz w g t l)(n:Nat)(hn:l.length=n):bj w (some ⟨g,0,none⟩) n l:=xf n hn h
theorem dz.new (w:aw)(t:TypeId)(l:aO):dz (w.alloc (.cells (l.map bv).toArray t)) w.heap.size t l:=eC w _
theorem cW {t:TypeId}{n:Nat}(h:(prog.info? t).map (·.size)=some n)(l:aO)(hl:l.length=n):(prog.info? t).map (·.size)=some (l.map bv).toArray.size:=by rw[h];simp[hl]
theorem FR (w:aw)(A B:aO)(n:Nat)(hA:A.length=n)(hB:B.length=n):∀is:List Nat,(∀i∈is,i<n)→
  (Op.eqItems 9999 5 1 (A.map bv).toArray (B.map bv).toArray is).run prog w= .ok (decide (∀i∈is,at8 A i=at8 B i)) w
 |[],_=>by simp[Op.eqItems]
 |i::is,h=>by
  have hi:i<n:=h i (by simp);have he:prog.plainKey 5=true:=by kernel_rfl
  have p1:=run_part_plain (P:=prog) w he (xs:=(A.map bv).toArray) (off:=i*1) (v:=bv (at8 A i)) (by simp[cP A i (by omega),show i<A.length by omega]);have p2:=run_part_plain (P:=prog) w he (xs:=(B.map bv).toArray) (off:=i*1) (v:=bv (at8 B i)) (by simp[cP B i (by omega),show i<B.length by omega]);have p3:=run_equalIn_int (P:=prog) w 9998 5 .u8 .u8 ((at8 A i).toNat:Int) ((at8 B i).toNat:Int) underlying5;have ih:=FR w A B n hA hB is (λj hj=>h j (by simp[hj]));simp only[Op.eqItems,Sem.run_bind,p1,p2,bv,p3,Result.andThen_ok]
  by_cases e:at8 A i=at8 B i
  ·simp[e,ih]
  ·have e':¬((at8 A i).toNat:Int)=((at8 B i).toNat:Int):=λh=>e (UInt8.toNat_inj.1 (by omega));simp[e,e']
theorem G8 (w:aw)(t:TypeId)(n:Nat)(A B:aO)(hA:A.length=n)(hB:B.length=n)(hu:prog.underlying t=some (.array n 5)):
  (Op.equalIn 10000 t (.agg (A.map bv).toArray) (.agg (B.map bv).toArray)).run prog w= .ok (decide (A=B)) w:=by
 obtain⟨i0,hi,_,_,_⟩:=info_parts Tryz.infoU8;have hc:prog.cellsOf 5=1:=by kernel_rfl
 rw[run_equalIn_array (P:=prog) w 9999 _ _ hu hi,hc,FR w A B n hA hB (List.range n) (by simp)]
 congr 1
 rw[decide_eq_decide];constructor
 ·intro h;apply List.ext_getElem
  ·omega
  ·intro i h1 h2;rw[←cP A i h1,←cP B i h2];exact h i (by simp;omega)
 ·intro h;rw[h];simp
theorem cT {w w':aw}{base:Nat}{e:TypeId}{v:Value}{n:Nat}{xs:bK}{row:Option Nat}(h:w.ownsRow base e 1 v n xs)(hg:w.grownBy w' row)(eL:∀b,v.ownBlock=some b→row≠some b):w'.ownsRow base e 1 v n xs:=by
 refine⟨h.1,?_⟩
 rcases h.2 with h0|⟨g,cap,cur,rfl,hb,cL,h1⟩
 ·exact .inl h0
 ·refine .inr ⟨g,cap,cur,rfl,hb,?_,h1⟩;rw[hg.block g (gD.1 cL).1 (λe=>eL g rfl e.symm)];exact cL
theorem aad {w:aw}{base:Nat}{e:TypeId}{v:Value}{n:Nat}{xs:bK}(h:w.ownsRow base e 1 v n xs):∀b,v.ownBlock=some b→base≤b∧b<w.heap.size:=by
 intro b hb
 rcases h.2 with⟨rfl,_⟩|⟨g,cap,cur,rfl,h1,cL,_⟩
 ·cases hb
 ·cases hb
  exact⟨h1,(gD.1 cL).1⟩
theorem JT (w:aw)(g:Nat)(cur:Array Value)(t:TypeId)(fr:Nat×Nat)(hg:w.heap[g]?=some (.cells cur t fr)):w.setRow g cur=w:=by
 have dN:g<w.heap.size:=(gD.1 hg).1;have hv:w.heap[g]= .cells cur t fr:=(gD.1 hg).2;unfold World.setRow;cases w with
 |mk heap tape drawn os output=>
  congr 1
  apply Array.ext
  ·simp
  ·intro k h1 h2;simp only[Array.getElem_modify];split
   ·rename_i hk;subst hk;simp at hv;simp[hv]
   ·rfl
theorem fu {P:Program}(g off:Nat)(t:TypeId):∀(vs:bK) (i:Nat) (cur:Array Value) (w:aw),w.heap[g]?=some (.cells cur t (0,0))→off+i+vs.length≤cur.size→(∀v∈vs,v.oneCell'=true)→
  (storeCells ⟨g,off,none⟩ vs i).run P w= .ok () (w.setRow g (cur.toList.take (off+i)++vs++cur.toList.drop (off+i+vs.length)).toArray)
 |[],i,cur,w,hg,hl,_=>by simp only[storeCells,List.append_nil,List.length_nil,Nat.add_zero,List.take_append_drop,Array.toArray_toList];show Result.ok () w=_;rw[JT w g cur t _ hg]
 |v::rest,i,cur,w,hg,hl,h1=>by
  have hi:off+i<cur.size:=by simp at hl;omega
  have Mf:(⟨g,off,none⟩:Addr).add i=⟨g,off+i,none⟩:=by unfold Addr.add;split<;>simp_all
  have fl:w.cell? ⟨g,off+i,none⟩=some cur[off+i]:=by simp[World.cell?,hg,hi]
  have abj:w.frozen? ⟨g,off+i,none⟩=false:=by simp[World.frozen?,hg]
  have xA:(store ((⟨g,off,none⟩:Addr).add i) v).run P w= .ok () (w.setRow g (cur.setIfInBounds (off+i) v)):=by rw[Mf,run_store P w _ v _ (h1 v (by simp)),fl];simp[abj,setCell_eq_setRow w g (off+i) cur t (0,0) v hg]
  have ih:=fu (P:=P) g off t rest (i+1) (cur.setIfInBounds (off+i) v) (w.setRow g (cur.setIfInBounds (off+i) v)) (setRow_heap w g cur _ t _ hg) (by simp at hl⊢;omega) (λx hx=>h1 x (by simp[hx]));simp only[storeCells,Sem.run_bind,xA,Result.andThen_ok,ih,setRow_setRow]
  congr 3
  have dN:off+i<cur.toList.length:=by simp at hi⊢;omega
  rw[Array.toList_setIfInBounds,show off+(i+1)=off+i+1 by omega,List.take_set,List.drop_set,if_pos (by omega)];have e2:(cur.toList.take (off+i+1)).set (off+i) v=cur.toList.take (off+i)++[v]:=by
   have hm:min (off+i) cur.size=off+i:=by omega
   rw[List.take_succ_eq_append_getElem dN,List.set_append_right _ _ (by simp;omega)];simp[hm]
  rw[e2,List.length_cons,show off+i+1+rest.length=off+i+(rest.length+1) by omega];simp
theorem Ar {P:Program}(W:aw)(ty:TypeId)(b off:Nat)(vs:bK)(d:TypeDesc)(hc:∀j v,vs[j]?=some v→W.cell? ⟨b,off+j,none⟩=some v)(hu:P.underlying ty=some d)
  (hd:(match d with| .struct _| .array _ _=>true|_=>false)=true) (hi:(P.info? ty).map (·.size)=some vs.length):
  (loadVar ty ⟨b,off,none⟩).run P W= .ok (.agg vs.toArray) W:=by
 have hld:(loadCells ⟨b,off,none⟩ vs.length).run P W= .ok vs.toArray W:=
  run_loadCells_list (P:=P) W ⟨b,off,none⟩ vs (λj v hv=>by
   have Mf:(⟨b,off,none⟩:Addr).add j=⟨b,off+j,none⟩:=by unfold Addr.add;split<;>simp_all
   rw[Mf];exact hc j v hv)
 cases hq:P.info? ty with
 |none=>simp[hq] at hi
 |some i=>
  have hs:i.size=vs.length:=by simpa[hq] using hi
  have Tb:(isAgg ty).run P W= .ok true W:=by unfold isAgg;rw[Sem.run_bind,run_underlying hu W];cases d<;>simp_all
  simp[loadVar,Sem.run_bind,Tb,sizeOf,typeInfo,hq,hs,hld]
theorem bE {P:Program}{o:Oper}{a:Act}{w:aw}(ty:TypeId)(x:Operand)(ho:o.op= .load ty x)(b off:Nat)(hx:a.eval x= .pointer (some ⟨b,off,none⟩))(vs:bK)(d:TypeDesc)
  (hc:∀j v,vs[j]?=some v→w.cell? ⟨b,off+j,none⟩=some v) (hu:P.underlying ty=some d) (hd:(match d with| .struct _| .array _ _=>true|_=>false)=true) (hi:(P.info? ty).map (·.size)=some vs.length):
  (execOp a.eval o).run P w= .ok (.value (.agg vs.toArray)) w:=by
 unfold execOp;simp only[ho,hx,Instr.loadAt,Instr.sureAddr,Sem.run_bind,Sem.run_pure,Result.andThen_ok,Ar w ty b off vs d hc hu hd hi]
theorem cD {P:Program}{ops:Array Oper}{rest:List Oper}{o:Oper}{a:Act}{w:aw}{Q:Exit→Act→aw→Prop}(hgd:o.guard=none)(ty:TypeId)(x:Operand)(ho:o.op= .load ty x)(b off:Nat)(hx:a.eval x= .pointer (some ⟨b,off,none⟩))(vs:bK)(d:TypeDesc)
  (hc:∀j v,vs[j]?=some v→w.cell? ⟨b,off+j,none⟩=some v) (hu:P.underlying ty=some d) (hd:(match d with| .struct _| .array _ _=>true|_=>false)=true) (hi:(P.info? ty).map (·.size)=some vs.length)
  (h:wpList P ops Q rest (a.put o.dst (.agg vs.toArray)) w):wpList P ops Q (o::rest) a w:=by
 refine wpList_plain hgd λK hK=>?_;unfold Oper.wp;rw[bE ty x ho b off hx vs d hc hu hd hi];exact hK _ _ h
theorem bu {P:Program}{ops:Array Oper}{Q:Exit→Act→aw→Prop}{G:aw→aw→Prop}{K:Act→aw→Prop}{r:List (Nat×Bool)}{i:Nat}{o:Oper}{a:Act}{w w':aw}(ho:ops[i]?=some o)
  (hw:Region.wanted o (yielded ops a.tmps)=true) (x9:(execOp a.eval o).run P w= .ok .skip w') (hG:G w w') (h:dW P ops Q G K r (a.put o.dst ag) w'):
  dW P ops Q G K ((i,false)::r) a w:=by
 refine⟨o,ho,.inr ⟨hw,.inr ⟨rfl,?_⟩⟩⟩;unfold Oper.wp;rw[x9];exact⟨.inl hG,h⟩
theorem bI.setCell (w:aw)(g i:Nat)(v:Value):bI g w (w.setCell ⟨g,i,none⟩ v):=
 ⟨rfl,rfl,rfl,by simp,λk hk eL=>heap_setCell_other w ⟨g,i,none⟩ k v (λe=>eL (by rw[e]))⟩
theorem dF {w:aw}{b:Nat}{t:TypeId}{fr:Nat×Nat}(A vs B:bK)(h:w.heap[b]?=some (.cells (A++vs++B).toArray t fr))(off:Nat)(afK:A.length=off):
  ∀j v,vs[j]?=some v→w.cell? ⟨b,off+j,none⟩=some v:=by
 intro j v hv;have hj:j<vs.length:=(List.getElem?_eq_some_iff.1 hv).1;rw[cell_of_row w b (off+j) _ t fr h,←afK];simp only[List.getElem?_toArray];rw[List.append_assoc,List.getElem?_append_right (by omega),List.getElem?_append_left (by omega)]
 simpa using hv
theorem JU (off:Nat):∀(vs:bK) (k:Nat) (cells:Array Value),off+k+vs.length≤cells.size→
  (vs.zipIdx k).foldl (λcs (x:Value×Nat)=>cs.setIfInBounds (off+x.2) x.1) cells=(cells.toList.take (off+k)++vs++cells.toList.drop (off+k+vs.length)).toArray
 |[],k,cells,h=>by simp
 |v::vs,k,cells,h=>by
  rw[List.zipIdx_cons,List.foldl_cons,JU off vs (k+1) _ (by simp at h⊢;omega)];have dN:off+k<cells.toList.length:=by simp at h⊢;omega
  have e1:(cells.setIfInBounds (off+k) v).toList=cells.toList.set (off+k) v:=by simp
  rw[e1,show off+(k+1)=off+k+1 by omega,List.take_set,List.drop_set,if_pos (by omega)];have e2:(cells.toList.take (off+k+1)).set (off+k) v=cells.toList.take (off+k)++[v]:=by
   have hm:min (off+k) cells.size=off+k:=by simp at h;omega
   rw[List.take_succ_eq_append_getElem dN,List.set_append_right _ _ (by simp;omega)];simp[hm]
  rw[e2,List.length_cons,show off+k+1+vs.length=off+k+(vs.length+1) by omega];simp
theorem jB (place:Nat→Option (Nat×Nat))(cells:Array Value)(i off:Nat)(vs:bK)(rest:List (Nat×Value))(hp:place i=some (off,vs.length))(h:off+vs.length≤cells.size):
  Instr.fill place cells ((i,.agg vs.toArray)::rest)=Instr.fill place (cells.toList.take off++vs++cells.toList.drop (off+vs.length)).toArray rest:=by
 have f:=JU off vs 0 cells (by omega);rw[Nat.add_zero] at f;rw[←f];have hc:(Value.agg vs.toArray).cells=vs.toArray:=rfl;rw[Instr.fill,hp];simp only[hc];simp;intro h';omega
theorem fi (w:aw)(t:TypeId)(vs:bK)(n:Nat)(hn:vs.length=n)(hi:(prog.info? t).map (·.size)=some n)(h1:∀v∈vs,v.oneCell'=true)(c:Array Value)(hc:c.size=n):
  (storeCells ⟨w.heap.size,0,none⟩ vs).run prog (w.alloc (.cells c t))= .ok () (w.alloc (.cells vs.toArray t)):=by
 have:=run_storeCells_new (P:=prog) w t c vs.toArray (by rw[hi];simp[hn]) (by simp[hc,hn]) (by rw[Array.all_eq_true_iff_forall_mem];intro u hu;simp only[List.mem_toArray] at hu;exact h1 u hu)
 exact this
theorem gu {w w':aw}{a:bW}{len g:Nat}{l:aO}(h:bj w a len l)(hG:w.grownBy w' (some g))(eL:∀b o f,a=some ⟨b,o,f⟩→b≠g):bj w' a len l:=by
 refine⟨h.1,?_⟩
 rcases h.2 with h0|⟨b,off,rfl,hc⟩
 ·exact .inl h0
 ·exact .inr ⟨b,off,rfl,λi hi=>hG.cell (hc i hi) (λe=>eL b off none rfl (by cases e;rfl))⟩
theorem dI {w W W':aw}{g:Nat}(h:Below w.heap.size w W)(hG:W.grownBy W' (some g))(hg:w.heap.size≤g):Below w.heap.size w W':=
 h.trans ⟨hG.os,hG.tape,hG.output,hG.size,λk hk=>hG.block k (by have:=h.size;omega) (λe=>by cases e;omega)⟩
def dM (key:aO)(has:Bool)(n:Nat):bK:=key.map bv++[.bool has,.int .u64 (n:Int)]
theorem dK (key:aO)(has:Bool)(n:Nat):(dM key has n).length=key.length+2:=by simp[dM]
theorem jL (key:aO)(has:Bool)(n:Nat):∀v∈dM key has n,v.oneCell'=true:=by
 intro v hv;unfold dM at hv
 rcases List.mem_append.1 hv with h|h
 ·exact bd key v h
 ·simp only[mg,nj,or_false] at h
  rcases h with rfl|rfl<;>rfl
theorem gF (key:aO)(has:Bool)(n:Nat)(hk:key.length=32):(prog.info? 42).map (·.size)=some (dM key has n).toArray.size:=by
 have e1:(prog.info? 42).map (·.size)=some 34:=by kernel_rfl
 rw[e1];simp[dM,hk]
structure nk (W:aw)(g:Nat)(key:aO)(has:Bool)(n:Nat):Prop where
 row:W.heap[g]?=some (.cells (dM key has n).toArray 42 (0,0))
 k:key.length=32
section
variable {W W':aw} {g:Nat} {key:aO} {has:Bool} {n:Nat}
theorem nk.lt (h:nk W g key has n):g<W.heap.size:=(gD.1 h.row).1
theorem nk.later (h:nk W g key has n)(hb:Below W.heap.size W W'):nk W' g key has n:=⟨by rw[hb.block g h.lt];exact h.row,h.k⟩
theorem nk.but {g':Nat}(h:nk W g key has n)(hG:W.grownBy W' (some g'))(eL:g≠g'):nk W' g key has n:=⟨by rw[hG.block g h.lt (λe=>eL (by cases e;rfl))];exact h.row,h.k⟩
theorem nk.num (h:nk W g key has n):W.cell? ⟨g,33,none⟩=some (.int .u64 (n:Int))∧W.frozen? ⟨g,33,none⟩=false:=by refine⟨?_,frozen_of_row W g 33 _ _ h.row⟩;rw[cell_of_row W g 33 _ _ (0,0) h.row];simp[dM,h.k]
theorem nk.LM (h:nk W g key has n):W.cell? ⟨g,32,none⟩=some (.bool has)∧W.frozen? ⟨g,32,none⟩=false:=by refine⟨?_,frozen_of_row W g 32 _ _ h.row⟩;rw[cell_of_row W g 32 _ _ (0,0) h.row];simp[dM,h.k]
theorem nk.Qd (h:nk W g key has n)(m:Nat):nk (W.setCell ⟨g,33,none⟩ (.int .u64 (m:Int))) g key has m:=by
 refine⟨?_,h.k⟩;rw[heap_setCell_same W g 33 _ _ _ h.row]
 congr 2
 simp[dM,h.k]
theorem nk.new (w:aw)(key:aO)(has:Bool)(n:Nat)(hk:key.length=32):nk (w.alloc (.cells (dM key has n).toArray 42)) w.heap.size key has n:=⟨eC w _,hk⟩
theorem nk.At (h:nk W g key has n):bj W (some ⟨g,0,none⟩) 32 key:=by refine⟨h.k,.inr ⟨g,0,rfl,λi hi=>?_⟩⟩;have hk:=h.k;rw[cell_of_row W g (0+i) _ _ (0,0) h.row,Nat.zero_add];have e:at8 key i=key[i]'(by omega):=cP key i (by omega);rw[e];simp[dM,List.getElem?_append_left,hk,hi,bv]
theorem Tc (w:aw)(key:aO)(has:Bool)(n:Nat)(hk:key.length=32)(c:Array Value)(hc:c.size=34):(storeCells ⟨w.heap.size,0,none⟩ (dM key has n)).run prog (w.alloc (.cells c 42))= .ok () (w.alloc (.cells (dM key has n).toArray 42)):=
 fi w _ _ 34 (by simp[dM,hk]) (by kernel_rfl) (jL key has n) c hc
end
def aab:bK:=dM (cz 32 0) false 0
theorem Xs:∀parts,prog.built 42 parts=Instr.fill (#[(0,32),(32,1),(33,1)][·]?) aab.toArray parts:=λparts=>by kernel_rfl
theorem Qe (key:aO)(has:Bool)(hk:key.length=32):prog.built 42 [(0,.agg (key.map bv).toArray),(1,.bool has)]=some (dM key has 0).toArray:=by
 obtain⟨Z,hZ⟩:=aW ((cz 32 (0:UInt8)).map bv);have Jy:Z.length=32:=by rw[←hZ];rfl
 rw[Xs,aab,dM,hZ,jB _ _ 0 0 (key.map bv) _ (by simp[hk]) (by simp;omega)];simp only[List.take_zero,List.nil_append,List.length_map,hk,Nat.zero_add];rw[List.drop_left' Jy];simp[Instr.fill,Value.cells,dM,hk,List.set_append_right]
theorem CY (w:aw)(A B:aO)(n:Nat)(hA:A.length=n)(hB:B.length=n):∀is:List Nat,(∀i∈is,i<n)→
  (Op.eqItems 9998 5 1 (A.map bv).toArray (B.map bv).toArray is).run prog w= .ok (decide (∀i∈is,at8 A i=at8 B i)) w
 |[],_=>by simp[Op.eqItems]
 |i::is,h=>by
  have hi:i<n:=h i (by simp);have he:prog.plainKey 5=true:=by kernel_rfl
  have p1:=run_part_plain (P:=prog) w he (xs:=(A.map bv).toArray) (off:=i*1) (v:=bv (at8 A i)) (by simp[cP A i (by omega),show i<A.length by omega]);have p2:=run_part_plain (P:=prog) w he (xs:=(B.map bv).toArray) (off:=i*1) (v:=bv (at8 B i)) (by simp[cP B i (by omega),show i<B.length by omega]);have p3:=run_equalIn_int (P:=prog) w 9997 5 .u8 .u8 ((at8 A i).toNat:Int) ((at8 B i).toNat:Int) underlying5;have ih:=CY w A B n hA hB is (λj hj=>h j (by simp[hj]));simp only[Op.eqItems,Sem.run_bind,p1,p2,bv,p3,Result.andThen_ok]
  by_cases e:at8 A i=at8 B i
  ·simp[e,ih]
  ·have e':¬((at8 A i).toNat:Int)=((at8 B i).toNat:Int):=λh=>e (UInt8.toNat_inj.1 (by omega));simp[e,e']
theorem Xt (w:aw)(t:TypeId)(n:Nat)(A B:aO)(hA:A.length=n)(hB:B.length=n)(hu:prog.underlying t=some (.array n 5)):
  (Op.equalIn 9999 t (.agg (A.map bv).toArray) (.agg (B.map bv).toArray)).run prog w= .ok (decide (A=B)) w:=by
 obtain⟨i0,hi,_,_,_⟩:=info_parts Tryz.infoU8;have hc:prog.cellsOf 5=1:=by kernel_rfl
 rw[run_equalIn_array (P:=prog) w 9998 _ _ hu hi,hc,CY w A B n hA hB (List.range n) (by simp)]
 congr 1
 rw[decide_eq_decide];constructor
 ·intro h;apply List.ext_getElem
  ·omega
  ·intro i h1 h2;rw[←cP A i h1,←cP B i h2];exact h i (by simp;omega)
 ·intro h;rw[h];simp
theorem ON (w:aw)(key:aO)(has:Bool)(n:Nat)(hk:key.length=32):(part 24 (dM key has n).toArray 0).run prog w= .ok (.agg (key.map bv).toArray) w:=by
 obtain⟨i,hi⟩:=info_of_underlying underlying24;have hc:prog.cellsOf 24=32:=by kernel_rfl
 have he:(dM key has n).toArray.extract 0 (0+32)=(key.map bv).toArray:=by rw[←Array.toList_inj,Array.toList_extract];simp[dM,List.extract,hk]
 simp only[part,isAgg,Sem.run_bind,run_underlying underlying24,Result.andThen_ok,Sem.run_pure,if_true,run_sizeOf w hi,hc,he]
theorem abk (w:aw)(A B:aO)(ha hb:Bool)(n m:Nat)(xs ys:Array Value)(ka kb:Value)
 (pa:(part 24 xs 0).run prog w= .ok ka w) (pb:(part 24 ys 0).run prog w= .ok kb w)
 (q0:(Op.equalIn 9999 24 ka kb).run prog w= .ok (decide (A=B)) w)
 (a1:(part 4 xs 32).run prog w= .ok (.bool ha) w) (b1:(part 4 ys 32).run prog w= .ok (.bool hb) w)
 (a2:(part 40 xs 33).run prog w= .ok (.int .u64 n) w) (b2:(part 40 ys 33).run prog w= .ok (.int .u64 m) w)
 (q1:(Op.equalIn 9999 4 (.bool ha) (.bool hb)).run prog w= .ok (ha==hb) w)
 (q2:(Op.equalIn 9999 40 (.int .u64 n) (.int .u64 m)).run prog w= .ok ((n:Int)==(m:Int)) w):
 (Op.equalIn 10000 42 (.agg xs) (.agg ys)).run prog w= .ok (decide (A=B∧ha=hb∧n=m)) w:=by
 have h:=run_equalIn_struct (P:=prog) w 9999 42 xs ys (by simp only[Program.fieldsOf,underlying42]) Tryz.stoodInHeld42;refine h.trans ?_;clear h;have n1:¬ "Key" = "_":=by decide
 have n2:¬ "Has" = "_":=by decide
 have n3:¬ "N" = "_":=by decide
 simp only[Program.fieldsOf,underlying42,Op.eqFields,ne_eq,n1,n2,n3,not_false_eq_true,if_true,Sem.run_bind,pa,pb,Result.andThen_ok,q0]
 by_cases h1:A=B
 ·simp only[h1,decide_true,Bool.not_true,Bool.false_eq_true,if_false,Sem.run_bind,a1,b1,Result.andThen_ok,q1,true_and]
  by_cases h2:ha=hb
  ·subst h2;simp only[beq_self_eq_true,Bool.not_true,Bool.false_eq_true,if_false,Sem.run_bind,a2,b2,Result.andThen_ok,q2,true_and]
   by_cases h3:n=m
   ·subst h3;simp
   ·have h4:((n:Int)==(m:Int))=false:=by simp;omega
    simp[h3,h4]
  ·simp[h2]
 ·simp[h1]
theorem Td (w:aw)(A B:aO)(ha hb:Bool)(n m:Nat)(hA:A.length=32)(hB:B.length=32):
  (Op.equalIn 10000 42 (.agg (dM A ha n).toArray) (.agg (dM B hb m).toArray)).run prog w= .ok (decide (A=B∧ha=hb∧n=m)) w:=
 abk w A B ha hb n m _ _ _ _ (ON w A ha n hA) (ON w B hb m hB) (Xt w 24 32 A B hA hB underlying24)
  (run_part_plain w (by kernel_rfl) (by simp[dM,hA])) (run_part_plain w (by kernel_rfl) (by simp[dM,hB])) (run_part_plain w (by kernel_rfl) (by simp[dM,hA])) (run_part_plain w (by kernel_rfl) (by simp[dM,hB]))
  (run_equalIn_bool' w 9998 _ ha hb underlying4) (run_equalIn_int w 9998 _ .u64 .u64 _ _ underlying40)
section
variable {ops:Array Oper} {rest:List Oper} {o:Oper} {a:Act} {w:aw} {Q:Exit→Act→aw→Prop}
theorem Mt (key:aO)(has:Bool)(hk:key.length=32)(hg:o.guard=none)(x y:Operand)(ho:o.op= .build 42 #[(0,x),(1,y)])
  (hx:a.eval x= .agg (key.map bv).toArray) (hy:a.eval y= .bool has) (h:wpList prog ops Q rest (a.put o.dst (.agg (dM key has 0).toArray)) w):wpList prog ops Q (o::rest) a w:=
 wpList_buildTo hg _ _ ho _ rfl _ (by simp[hx,hy,Qe key has hk]) h
end
theorem eV {P:Program}{ops:Array Oper}{rest:List Oper}{o:Oper}{a:Act}{w:aw}{Q:Exit→Act→aw→Prop}(hw:Region.wanted o (yielded ops a.tmps)=true)(ty:TypeId)(x:Operand)(ho:o.op= .load ty x)
  (g:Nat) (hx:a.eval x= .pointer (some ⟨g,0,none⟩)) (t:TypeId) (cs:Array Value) (fr:Nat×Nat) (d:TypeDesc) (hg:w.heap[g]?=some (.cells cs t fr))
  (hu:P.underlying ty=some d) (hd:(match d with| .struct _| .array _ _=>true|_=>false)=true) (hi:(P.info? ty).map (·.size)=some cs.size)
  (h:wpList P ops Q rest (a.put o.dst (.agg cs)) w):wpList P ops Q (o::rest) a w:=by
 unfold wpList;rw[if_pos hw];exact .inl (wp_load_row ty x ho g hx t cs fr d hg hu hd hi h)
theorem Te {ev:Operand→Value}{o:Oper}{w:aw}{x y:Operand}{ty ty':TypeId}{X Y:Array Value}{b:Bool}(neq:Bool)(ho:o.op= .binOp (if neq=true then .neq else .eql) ty x y ty')(hx:ev x= .agg X)(hy:ev y= .agg Y)(hm:prog.eqGuardType prog.depth ty=false)
  (hq:(Op.equalIn 10000 ty (.agg X) (.agg Y)).run prog w= .ok b w):(execOp ev o).run prog w= .ok (.value (.bool (if neq=true then !b else b))) w:=by
 unfold execOp;cases neq
 ·simp only[Bool.false_eq_true,if_false] at ho⊢;simp only[ho,hx,hy,Sem.run_bind,run_eqGuard_agg w _ _ _ _ _ _ hm,Result.andThen_ok,run_eql_struct,hq,Sem.run_pure]
 ·simp only[if_true] at ho⊢;simp only[ho,hx,hy,Sem.run_bind,run_eqGuard_agg w _ _ _ _ _ _ hm,Result.andThen_ok,run_neq_struct,hq,Sem.run_pure]
theorem yc {ops:Array Oper}{rest:List Oper}{o:Oper}{a:Act}{w:aw}{Q:Exit→Act→aw→Prop}(neq:Bool)(hg:Region.wanted o (yielded ops a.tmps)=true)(x y:Operand)(ty ty':TypeId)(ho:o.op= .binOp (if neq=true then .neq else .eql) ty x y ty')(X Y:Array Value)(hx:a.eval x= .agg X)(hy:a.eval y= .agg Y)(hm:prog.eqGuardType prog.depth ty=false)(b:Bool)
  (hq:(Op.equalIn 10000 ty (.agg X) (.agg Y)).run prog w= .ok b w) (h:wpList prog ops Q rest (a.put o.dst (.bool (if neq=true then !b else b))) w):wpList prog ops Q (o::rest) a w:=by
 unfold wpList;rw[if_pos hg];refine .inl ?_;unfold Oper.wp;rw[Te neq ho hx hy hm hq];exact h
def zo:Array Value:=#[.int .u8 0,.int .u8 0,.int .u8 0,.int .u8 0,.int .u8 0,.int .u8 0,.int .u8 0,.int .u8 0,.int .u8 0,.int .u8 0,.int .u8 0,.int .u8 0,.int .u8 0,.int .u8 0,.int .u8 0,.int .u8 0,.int .u8 0,.int .u8 0,.int .u8 0,.int .u8 0,.int .u8 0,.int .u8 0,.int .u8 0,.int .u8 0,.int .u8 0,.int .u8 0,.int .u8 0,.int .u8 0,.int .u8 0,.int .u8 0,.int .u8 0,.int .u8 0,.bool false,.int .u64 0]
def uv (x:BitVec 32):Value:=.int .u32 (x.toNat:Int)
def Wd (w:aw)(g:Nat)(t:TypeId)(l:List (BitVec 32)):Prop:=w.heap[g]?=some (.cells (l.map uv).toArray t (0,0))
theorem Wd.set {w:aw}{g:Nat}{t:TypeId}{l:List (BitVec 32)}(h:Wd w g t l)(i:Nat)(x:BitVec 32):Wd (w.setCell ⟨g,i,none⟩ (uv x)) g t (l.set i x):=by have:=heap_setCell_same w g i _ _ (uv x) h;unfold Wd;rw[this,List.map_set];simp
theorem Wd.drew {w:aw}{g:Nat}{t:TypeId}{l:List (BitVec 32)}(h:Wd w g t l):Wd w.drew g t l:=h
theorem Wd.word {w:aw}{g:Nat}{t:TypeId}{l:List (BitVec 32)}(h:Wd w g t l)(i:Nat)(hi:i<l.length):
  w.cell? ⟨g,i,none⟩=some (.int .u32 ((bG l i).toNat:Int))∧w.frozen? ⟨g,i,none⟩=false:=by
 refine⟨?_,frozen_of_row w g i _ _ h⟩;rw[cell_of_row w g i _ _ (0,0) h,oM l i hi];simp[hi,uv]
theorem Wd.lt {w:aw}{g:Nat}{t:TypeId}{l:List (BitVec 32)}(h:Wd w g t l):g<w.heap.size:=(gD.1 h).1
theorem Wd.later {w w':aw}{g:Nat}{t:TypeId}{l:List (BitVec 32)}(h:Wd w g t l)(hb:Below w.heap.size w w'):Wd w' g t l:=by unfold Wd;rw[hb.block g h.lt];exact h
theorem Wd.below {B:Nat}{w w':aw}{g:Nat}{t:TypeId}{l:List (BitVec 32)}(h:Wd w g t l)(hb:Below B w w')(hg:g<B):Wd w' g t l:=by unfold Wd;rw[hb.block g hg];exact h
theorem Wd.but {w w':aw}{g g':Nat}{t:TypeId}{l:List (BitVec 32)}(h:Wd w g t l)(eL:g≠g')(hb:w.grownBy w' (some g')):Wd w' g t l:=by unfold Wd;rw[hb.block g h.lt (λe=>eL (by cases e;rfl))];exact h
theorem Wd.other {w:aw}{g g':Nat}{t:TypeId}{l:List (BitVec 32)}(h:Wd w g t l)(eL:g≠g')(i:Nat)(v:Value):Wd (w.setCell ⟨g',i,none⟩ v) g t l:=by unfold Wd;rw[heap_setCell_other w ⟨g',i,none⟩ g v eL];exact h
theorem Wd.new (w:aw)(t:TypeId)(l:List (BitVec 32)):Wd (w.alloc (.cells (l.map uv).toArray t)) w.heap.size t l:=eC w _
theorem uk (y z:BitVec 32):bits .xor .u32 (y.toNat:Int) (z.toNat:Int)=((y^^^z).toNat:Int):=xor_val y z
theorem rK {w:aw}{g:Nat}{t:TypeId}{l:List (BitVec 32)}(h:Wd w g t l)(p:Nat)(s:BitVec 32):
  Wd (w.drew.setCell ⟨g,p,none⟩ (uv s)) g t (l.set p s)∧w.grownBy (w.drew.setCell ⟨g,p,none⟩ (uv s)) (some g):=by
 refine⟨h.drew.set p s,rfl,rfl,rfl,by simp,λj hj eL=>?_⟩;rw[heap_setCell_other w.drew ⟨g,p,none⟩ j _ (λe=>eL (by rw[e]))];rfl
theorem cj (l:List (BitVec 32)):∀v∈l.map uv,v.oneCell'=true:=by intro v hv;obtain⟨x,_,rfl⟩:=List.mem_map.1 hv;rfl
theorem jr {t:TypeId}{n:Nat}(h:(prog.info? t).map (·.size)=some n)(l:List (BitVec 32))(hl:l.length=n):(prog.info? t).map (·.size)=some (l.map uv).toArray.size:=by rw[h];simp[hl]
theorem Tf (x:BitVec 32)(n:Int):rotl x (-n)=ZB x n:=by
 unfold ZB rotl;have:(32-n) % 32=(-n) % 32:=by omega
 rw[this]
theorem um (x:BitVec 32)(n:Int)(w:aw)(h0:0≤n)(h1:n≤32):
  Calls prog 153 #[.int .u32 (x.toNat:Int),.int .i64 n] w λe w'=>e= .returned (.int .u32 ((ZB x n).toNat:Int))∧w'=w:=by
 go_enter func153,ntmps153
 go_wp2_with (go_at_call 163;refine(OH x (-n) _).mono ?_;rintro e w' ⟨rfl,rfl⟩)
 go_ret
 refine⟨?_,rfl⟩;rw[Tf];rfl
theorem JV (x y z:BitVec 32):(((x.toNat:Int)+((y.toNat:Int)+(z.toNat:Int)) % 4294967296)) % 4294967296=((x+y+z).toNat:Int):=by rw[BitVec.toNat_add,BitVec.toNat_add];omega
theorem JW (x y:BitVec 32):((x.toNat:Int)+(y.toNat:Int)) % 4294967296=((x+y).toNat:Int):=by rw[BitVec.toNat_add];omega
theorem JX (g:Nat)(t:TypeId)(l0:List (BitVec 32))(a b c d:Nat)(x y:BitVec 32)(w0:aw)(hS:Wd w0 g t l0)(ha:a<l0.length)(hb:b<l0.length)(hc:c<l0.length)(hd:d<l0.length):
  Calls prog 143 #[.pointer (some ⟨g,a,none⟩),.pointer (some ⟨g,b,none⟩),.pointer (some ⟨g,c,none⟩),.pointer (some ⟨g,d,none⟩),.int .u32 (x.toNat:Int),.int .u32 (y.toNat:Int)] w0 λe w'=>(∃v,e= .returned v)∧Wd w' g t (zf l0 a b c d x y)∧w0.grownBy w' (some g):=by
 have uo:ae (Wd w0 g t l0):=hS;have HG0:ae (w0.grownBy w0 (some g)):=cR w0 _;obtain⟨n,hn0⟩:=aW (l0.length);rw[hn0] at ha hb hc hd;clear hS
 go_enter func143,ntmps143
 go_wp2
 obtain⟨cp0,fp0⟩:=uo.o.drew.word a (by rw[hn0];exact ha);obtain⟨cq0,_⟩:=uo.o.drew.word b (by rw[hn0];exact hb);obtain⟨u0,Xu⟩:∃u,bG l0 a=u:=⟨_,rfl⟩;obtain⟨t0,Xv⟩:∃t,bG l0 b=t:=⟨_,rfl⟩;rw[Xu] at cp0;rw[Xv] at cq0;obtain⟨s0,ve⟩:∃s,u0+t0+x=s:=⟨_,rfl⟩;have HU0:ae (IntKind.u32.wrap ((u0.toNat:Int)+IntKind.u32.wrap ((t0.toNat:Int)+(x.toNat:Int)))=(s0.toNat:Int)):=by show _=_;rw[IntKind.wrap_u32,IntKind.wrap_u32,JV,ve]
 obtain⟨Xw,Xx⟩:=rK uo.o a s0;obtain⟨W0,gK⟩:∃W,w0.drew=W:=⟨_,rfl⟩;rw[gK] at cp0 fp0 cq0 Xw Xx;obtain⟨w1,JY⟩:∃w',W0.setCell ⟨g,a,none⟩ (uv s0)=w':=⟨_,rfl⟩;rw[JY] at Xw Xx;have Hw1:ae (W0.setCell ⟨g,a,none⟩ (.int .u32 (s0.toNat:Int))=w1):=JY;obtain⟨l1,vg⟩:∃l',oN l0 a b x=l':=⟨_,rfl⟩;have yL:ae (oN l0 a b x=l1):=vg;have gg:ae (Wd w1 g t l1):=by rw[←vg];unfold oN;rw[Xu,Xv,ve];exact Xw
 have s9:l1.length=n:=by rw[←vg];unfold oN;rw[List.length_set];exact hn0
 have mL:ae (w0.grownBy w1 (some g)):=HG0.o.trans Xx;have pX:ae (w0.drew=W0):=gK;clear Xw Xx gK JY vg ve Xu Xv uo HG0 hn0;refine ah (G:=bX) (by kernel_rfl) bX.refl bX.trans (by kernel_rfl) [(0,true),(1,true),(2,true),(3,true),(4,true),(5,true),(6,true),(7,true),(8,true),(9,true),(10,false)] rfl (by kernel_rfl) ?_;intro KK0 Tg;rw[pX.o]
 iterate 10 (refine aa rfl (by rfl) (v:=?_) ?_ ?_;rotate_left;(rintro w' rfl;go_simp;with_reducible rfl);go_simp)
 refine bp rfl (by rfl) (w':=w1) (by rw[←Hw1.o];go_simp;rw[HU0.o]) (by kernel_rfl) ?_;go_simp
 refine az Tg ?_;clear Tg pX Hw1 HU0 cp0 fp0 cq0
 go_wp2
 obtain⟨cp1,fp1⟩:=gg.o.drew.word d (by rw[s9];exact hd);obtain⟨cq1,_⟩:=gg.o.drew.word a (by rw[s9];exact ha);obtain⟨u1,hu1⟩:∃u,bG l1 d=u:=⟨_,rfl⟩;obtain⟨t1,Xy⟩:∃t,bG l1 a=t:=⟨_,rfl⟩;rw[hu1] at cp1;rw[Xy] at cq1;obtain⟨N1,jb⟩:∃N,u1^^^t1=N:=⟨_,rfl⟩;have HU1:ae (bits .xor .u32 (u1.toNat:Int) (t1.toNat:Int)=(N1.toNat:Int)):=by show _=_;rw[uk,jb]
 obtain⟨s1,jF⟩:∃s,ZB N1 16=s:=⟨_,rfl⟩;have JZ:ae (ZB N1 16=s1):=jF;obtain⟨Xz,XC⟩:=rK gg.o d s1;obtain⟨W1,fg⟩:∃W,w1.drew=W:=⟨_,rfl⟩;rw[fg] at cp1 fp1 cq1 Xz XC;obtain⟨w2,JP⟩:∃w',W1.setCell ⟨g,d,none⟩ (uv s1)=w':=⟨_,rfl⟩;rw[JP] at Xz XC;have Hw2:ae (W1.setCell ⟨g,d,none⟩ (.int .u32 (s1.toNat:Int))=w2):=JP;obtain⟨l2,Au⟩:∃l',kO l1 d a 16=l':=⟨_,rfl⟩;have Qf:ae (kO l1 d a 16=l2):=Au;have oE:ae (Wd w2 g t l2):=by rw[←Au];unfold kO;rw[hu1,Xy,jb,jF];exact Xz
 have tL:l2.length=n:=by rw[←Au];unfold kO;rw[List.length_set];exact s9
 have jR:ae (w0.grownBy w2 (some g)):=mL.o.trans XC;have fU:ae (w1.drew=W1):=fg;clear Xz XC fg JP Au jF hu1 Xy jb gg mL s9;refine ah (G:=bX) (by kernel_rfl) bX.refl bX.trans (by kernel_rfl) [(0,true),(1,true),(2,true),(3,true),(4,true),(5,true),(6,true),(7,true),(8,false),(9,true),(10,false)] rfl (by kernel_rfl) ?_;intro KK1 Th;rw[fU.o]
 iterate 8 (refine aa rfl (by rfl) (v:=?_) ?_ ?_;rotate_left;(rintro w' rfl;go_simp;with_reducible rfl);go_simp)
 refine aU (f:=153) (args:=#[.int .u32 (N1.toNat:Int),.int .i64 16]) rfl (by rfl) (by go_simp;rw[HU1.o]) ?_;refine(um N1 16 _ (by omega) (by omega)).mono ?_;rintro e w' ⟨rfl,rfl⟩;refine⟨_,rfl,rfl,?_⟩;rw[JZ.o];go_simp
 iterate 1 (refine aa rfl (by rfl) (v:=?_) ?_ ?_;rotate_left;(rintro w' rfl;go_simp;with_reducible rfl);go_simp)
 refine bp rfl (by rfl) (w':=w2) (by rw[←Hw2.o];go_simp) (by kernel_rfl) ?_;go_simp
 refine az Th ?_;clear Th fU Hw2 HU1 JZ cp1 fp1 cq1
 go_wp2
 obtain⟨cp2,fp2⟩:=oE.o.drew.word c (by rw[tL];exact hc);obtain⟨cq2,_⟩:=oE.o.drew.word d (by rw[tL];exact hd);obtain⟨u2,hu2⟩:∃u,bG l2 c=u:=⟨_,rfl⟩;obtain⟨t2,Mu⟩:∃t,bG l2 d=t:=⟨_,rfl⟩;rw[hu2] at cp2;rw[Mu] at cq2;obtain⟨s2,iJ⟩:∃s,u2+t2=s:=⟨_,rfl⟩;have HU2:ae (IntKind.u32.wrap ((u2.toNat:Int)+(t2.toNat:Int))=(s2.toNat:Int)):=by show _=_;rw[IntKind.wrap_u32,JW,iJ]
 obtain⟨XD,Mv⟩:=rK oE.o c s2;obtain⟨W2,fV⟩:∃W,w2.drew=W:=⟨_,rfl⟩;rw[fV] at cp2 fp2 cq2 XD Mv;obtain⟨w3,Mw⟩:∃w',W2.setCell ⟨g,c,none⟩ (uv s2)=w':=⟨_,rfl⟩;rw[Mw] at XD Mv;have Hw3:ae (W2.setCell ⟨g,c,none⟩ (.int .u32 (s2.toNat:Int))=w3):=Mw;obtain⟨l3,OO⟩:∃l',oO l2 c d=l':=⟨_,rfl⟩;have ZU:ae (oO l2 c d=l3):=OO;have vP:ae (Wd w3 g t l3):=by rw[←OO];unfold oO;rw[hu2,Mu,iJ];exact XD
 have CZ:l3.length=n:=by rw[←OO];unfold oO;rw[List.length_set];exact tL
 have yd:ae (w0.grownBy w3 (some g)):=jR.o.trans Mv;have fw:ae (w2.drew=W2):=fV;clear XD Mv fV Mw OO iJ hu2 Mu oE jR tL;refine ah (G:=bX) (by kernel_rfl) bX.refl bX.trans (by kernel_rfl) [(0,true),(1,true),(2,true),(3,true),(4,true),(5,true),(6,true),(7,true),(8,false)] rfl (by kernel_rfl) ?_;intro KK2 ye;rw[fw.o]
 iterate 8 (refine aa rfl (by rfl) (v:=?_) ?_ ?_;rotate_left;(rintro w' rfl;go_simp;with_reducible rfl);go_simp)
 refine bp rfl (by rfl) (w':=w3) (by rw[←Hw3.o];go_simp;rw[HU2.o]) (by kernel_rfl) ?_;go_simp
 refine az ye ?_;clear ye fw Hw3 HU2 cp2 fp2 cq2
 go_wp2
 obtain⟨cp3,fp3⟩:=vP.o.drew.word b (by rw[CZ];exact hb);obtain⟨cq3,_⟩:=vP.o.drew.word c (by rw[CZ];exact hc);obtain⟨u3,hu3⟩:∃u,bG l3 b=u:=⟨_,rfl⟩;obtain⟨t3,ht3⟩:∃t,bG l3 c=t:=⟨_,rfl⟩;rw[hu3] at cp3;rw[ht3] at cq3;obtain⟨N3,I4⟩:∃N,u3^^^t3=N:=⟨_,rfl⟩;have HU3:ae (bits .xor .u32 (u3.toNat:Int) (t3.toNat:Int)=(N3.toNat:Int)):=by show _=_;rw[uk,I4]
 obtain⟨s3,ur⟩:∃s,ZB N3 12=s:=⟨_,rfl⟩;have OP:ae (ZB N3 12=s3):=ur;obtain⟨XE,XF⟩:=rK vP.o b s3;obtain⟨W3,nV⟩:∃W,w3.drew=W:=⟨_,rfl⟩;rw[nV] at cp3 fp3 cq3 XE XF;obtain⟨w4,Wu⟩:∃w',W3.setCell ⟨g,b,none⟩ (uv s3)=w':=⟨_,rfl⟩;rw[Wu] at XE XF;have Hw4:ae (W3.setCell ⟨g,b,none⟩ (.int .u32 (s3.toNat:Int))=w4):=Wu;obtain⟨l4,Be⟩:∃l',kO l3 b c 12=l':=⟨_,rfl⟩;have OQ:ae (kO l3 b c 12=l4):=Be;have vQ:ae (Wd w4 g t l4):=by rw[←Be];unfold kO;rw[hu3,ht3,I4,ur];exact XE
 have RZ:l4.length=n:=by rw[←Be];unfold kO;rw[List.length_set];exact CZ
 have Av:ae (w0.grownBy w4 (some g)):=yd.o.trans XF;have pI:ae (w3.drew=W3):=nV;clear XE XF nV Wu Be ur hu3 ht3 I4 vP yd CZ;refine ah (G:=bX) (by kernel_rfl) bX.refl bX.trans (by kernel_rfl) [(0,true),(1,true),(2,true),(3,true),(4,true),(5,true),(6,true),(7,true),(8,false),(9,true),(10,false)] rfl (by kernel_rfl) ?_;intro KK3 Ti;rw[pI.o]
 iterate 8 (refine aa rfl (by rfl) (v:=?_) ?_ ?_;rotate_left;(rintro w' rfl;go_simp;with_reducible rfl);go_simp)
 refine aU (f:=153) (args:=#[.int .u32 (N3.toNat:Int),.int .i64 12]) rfl (by rfl) (by go_simp;rw[HU3.o]) ?_;refine(um N3 12 _ (by omega) (by omega)).mono ?_;rintro e w' ⟨rfl,rfl⟩;refine⟨_,rfl,rfl,?_⟩;rw[OP.o];go_simp
 iterate 1 (refine aa rfl (by rfl) (v:=?_) ?_ ?_;rotate_left;(rintro w' rfl;go_simp;with_reducible rfl);go_simp)
 refine bp rfl (by rfl) (w':=w4) (by rw[←Hw4.o];go_simp) (by kernel_rfl) ?_;go_simp
 refine az Ti ?_;clear Ti pI Hw4 HU3 OP cp3 fp3 cq3
 go_wp2
 obtain⟨cp4,fp4⟩:=vQ.o.drew.word a (by rw[RZ];exact ha);obtain⟨cq4,_⟩:=vQ.o.drew.word b (by rw[RZ];exact hb);obtain⟨u4,hu4⟩:∃u,bG l4 a=u:=⟨_,rfl⟩;obtain⟨t4,ht4⟩:∃t,bG l4 b=t:=⟨_,rfl⟩;rw[hu4] at cp4;rw[ht4] at cq4;obtain⟨s4,J0⟩:∃s,u4+t4+y=s:=⟨_,rfl⟩;have HU4:ae (IntKind.u32.wrap ((u4.toNat:Int)+IntKind.u32.wrap ((t4.toNat:Int)+(y.toNat:Int)))=(s4.toNat:Int)):=by show _=_;rw[IntKind.wrap_u32,IntKind.wrap_u32,JV,J0]
 obtain⟨XG,XH⟩:=rK vQ.o a s4;obtain⟨W4,fj⟩:∃W,w4.drew=W:=⟨_,rfl⟩;rw[fj] at cp4 fp4 cq4 XG XH;obtain⟨w5,Mx⟩:∃w',W4.setCell ⟨g,a,none⟩ (uv s4)=w':=⟨_,rfl⟩;rw[Mx] at XG XH;have ZV:ae (W4.setCell ⟨g,a,none⟩ (.int .u32 (s4.toNat:Int))=w5):=Mx;obtain⟨l5,Qg⟩:∃l',oN l4 a b y=l':=⟨_,rfl⟩;have Ch:ae (oN l4 a b y=l5):=Qg;have yg:ae (Wd w5 g t l5):=by rw[←Qg];unfold oN;rw[hu4,ht4,J0];exact XG
 have LN:l5.length=n:=by rw[←Qg];unfold oN;rw[List.length_set];exact RZ
 have LP:ae (w0.grownBy w5 (some g)):=Av.o.trans XH;have Ci:ae (w4.drew=W4):=fj;clear XG XH fj Mx Qg J0 hu4 ht4 vQ Av RZ;refine ah (G:=bX) (by kernel_rfl) bX.refl bX.trans (by kernel_rfl) [(0,true),(1,true),(2,true),(3,true),(4,true),(5,true),(6,true),(7,true),(8,true),(9,true),(10,false)] rfl (by kernel_rfl) ?_;intro KK4 Tj;rw[Ci.o]
 iterate 10 (refine aa rfl (by rfl) (v:=?_) ?_ ?_;rotate_left;(rintro w' rfl;go_simp;with_reducible rfl);go_simp)
 refine bp rfl (by rfl) (w':=w5) (by rw[←ZV.o];go_simp;rw[HU4.o]) (by kernel_rfl) ?_;go_simp
 refine az Tj ?_;clear Tj Ci ZV HU4 cp4 fp4 cq4
 go_wp2
 obtain⟨cp5,fp5⟩:=yg.o.drew.word d (by rw[LN];exact hd);obtain⟨cq5,_⟩:=yg.o.drew.word a (by rw[LN];exact ha);obtain⟨u5,hu5⟩:∃u,bG l5 d=u:=⟨_,rfl⟩;obtain⟨t5,ht5⟩:∃t,bG l5 a=t:=⟨_,rfl⟩;rw[hu5] at cp5;rw[ht5] at cq5;obtain⟨N5,Wv⟩:∃N,u5^^^t5=N:=⟨_,rfl⟩;have HU5:ae (bits .xor .u32 (u5.toNat:Int) (t5.toNat:Int)=(N5.toNat:Int)):=by show _=_;rw[uk,Wv]
 obtain⟨s5,EV⟩:∃s,ZB N5 8=s:=⟨_,rfl⟩;have td:ae (ZB N5 8=s5):=EV;obtain⟨OR,OS⟩:=rK yg.o d s5;obtain⟨W5,xo⟩:∃W,w5.drew=W:=⟨_,rfl⟩;rw[xo] at cp5 fp5 cq5 OR OS;obtain⟨w6,R0⟩:∃w',W5.setCell ⟨g,d,none⟩ (uv s5)=w':=⟨_,rfl⟩;rw[R0] at OR OS;have Hw6:ae (W5.setCell ⟨g,d,none⟩ (.int .u32 (s5.toNat:Int))=w6):=R0;obtain⟨l6,R4⟩:∃l',kO l5 d a 8=l':=⟨_,rfl⟩;have Ww:ae (kO l5 d a 8=l6):=R4;have Bf:ae (Wd w6 g t l6):=by rw[←R4];unfold kO;rw[hu5,ht5,Wv,EV];exact OR
 have Qh:l6.length=n:=by rw[←R4];unfold kO;rw[List.length_set];exact LN
 have HG6:ae (w0.grownBy w6 (some g)):=LP.o.trans OS;have wh:ae (w5.drew=W5):=xo;clear OR OS xo R0 R4 EV hu5 ht5 Wv yg LP LN;refine ah (G:=bX) (by kernel_rfl) bX.refl bX.trans (by kernel_rfl) [(0,true),(1,true),(2,true),(3,true),(4,true),(5,true),(6,true),(7,true),(8,false),(9,true),(10,false)] rfl (by kernel_rfl) ?_;intro KK5 Tk;rw[wh.o]
 iterate 8 (refine aa rfl (by rfl) (v:=?_) ?_ ?_;rotate_left;(rintro w' rfl;go_simp;with_reducible rfl);go_simp)
 refine aU (f:=153) (args:=#[.int .u32 (N5.toNat:Int),.int .i64 8]) rfl (by rfl) (by go_simp;rw[HU5.o]) ?_;refine(um N5 8 _ (by omega) (by omega)).mono ?_;rintro e w' ⟨rfl,rfl⟩;refine⟨_,rfl,rfl,?_⟩;rw[td.o];go_simp
 iterate 1 (refine aa rfl (by rfl) (v:=?_) ?_ ?_;rotate_left;(rintro w' rfl;go_simp;with_reducible rfl);go_simp)
 refine bp rfl (by rfl) (w':=w6) (by rw[←Hw6.o];go_simp) (by kernel_rfl) ?_;go_simp
 refine az Tk ?_;clear Tk wh Hw6 HU5 td cp5 fp5 cq5
 go_wp2
 obtain⟨cp6,fp6⟩:=Bf.o.drew.word c (by rw[Qh];exact hc);obtain⟨cq6,_⟩:=Bf.o.drew.word d (by rw[Qh];exact hd);obtain⟨u6,hu6⟩:∃u,bG l6 c=u:=⟨_,rfl⟩;obtain⟨t6,ht6⟩:∃t,bG l6 d=t:=⟨_,rfl⟩;rw[hu6] at cp6;rw[ht6] at cq6;obtain⟨s6,BQ⟩:∃s,u6+t6=s:=⟨_,rfl⟩;have HU6:ae (IntKind.u32.wrap ((u6.toNat:Int)+(t6.toNat:Int))=(s6.toNat:Int)):=by show _=_;rw[IntKind.wrap_u32,JW,BQ]
 obtain⟨R5,R6⟩:=rK Bf.o c s6;obtain⟨W6,My⟩:∃W,w6.drew=W:=⟨_,rfl⟩;rw[My] at cp6 fp6 cq6 R5 R6;obtain⟨w7,XI⟩:∃w',W6.setCell ⟨g,c,none⟩ (uv s6)=w':=⟨_,rfl⟩;rw[XI] at R5 R6;have Hw7:ae (W6.setCell ⟨g,c,none⟩ (.int .u32 (s6.toNat:Int))=w7):=XI;obtain⟨l7,Tm⟩:∃l',oO l6 c d=l':=⟨_,rfl⟩;have OT:ae (oO l6 c d=l7):=Tm;have Qi:ae (Wd w7 g t l7):=by rw[←Tm];unfold oO;rw[hu6,ht6,BQ];exact R5
 have J1:l7.length=n:=by rw[←Tm];unfold oO;rw[List.length_set];exact Qh
 have Wx:ae (w0.grownBy w7 (some g)):=HG6.o.trans R6;have G9:ae (w6.drew=W6):=My;clear R5 R6 My XI Tm BQ hu6 ht6 Bf HG6 Qh;refine ah (G:=bX) (by kernel_rfl) bX.refl bX.trans (by kernel_rfl) [(0,true),(1,true),(2,true),(3,true),(4,true),(5,true),(6,true),(7,true),(8,false)] rfl (by kernel_rfl) ?_;intro KK6 Tn;rw[G9.o]
 iterate 8 (refine aa rfl (by rfl) (v:=?_) ?_ ?_;rotate_left;(rintro w' rfl;go_simp;with_reducible rfl);go_simp)
 refine bp rfl (by rfl) (w':=w7) (by rw[←Hw7.o];go_simp;rw[HU6.o]) (by kernel_rfl) ?_;go_simp
 refine az Tn ?_;clear Tn G9 Hw7 HU6 cp6 fp6 cq6
 go_wp2
 obtain⟨cp7,fp7⟩:=Qi.o.drew.word b (by rw[J1];exact hb);obtain⟨cq7,_⟩:=Qi.o.drew.word c (by rw[J1];exact hc);obtain⟨u7,hu7⟩:∃u,bG l7 b=u:=⟨_,rfl⟩;obtain⟨t7,ht7⟩:∃t,bG l7 c=t:=⟨_,rfl⟩;rw[hu7] at cp7;rw[ht7] at cq7;obtain⟨N7,hN7⟩:∃N,u7^^^t7=N:=⟨_,rfl⟩;have HU7:ae (bits .xor .u32 (u7.toNat:Int) (t7.toNat:Int)=(N7.toNat:Int)):=by show _=_;rw[uk,hN7]
 obtain⟨s7,XJ⟩:∃s,ZB N7 7=s:=⟨_,rfl⟩;have R7:ae (ZB N7 7=s7):=XJ;obtain⟨R8,Sc⟩:=rK Qi.o b s7;obtain⟨W7,Qj⟩:∃W,w7.drew=W:=⟨_,rfl⟩;rw[Qj] at cp7 fp7 cq7 R8 Sc;obtain⟨w8,To⟩:∃w',W7.setCell ⟨g,b,none⟩ (uv s7)=w':=⟨_,rfl⟩;rw[To] at R8 Sc;have Hw8:ae (W7.setCell ⟨g,b,none⟩ (.int .u32 (s7.toNat:Int))=w8):=To;obtain⟨l8,Se⟩:∃l',kO l7 b c 7=l':=⟨_,rfl⟩;have I5:ae (kO l7 b c 7=l8):=Se;have J2:ae (Wd w8 g t l8):=by rw[←Se];unfold kO;rw[hu7,ht7,hN7,XJ];exact R8
 have Tp:l8.length=n:=by rw[←Se];unfold kO;rw[List.length_set];exact J1
 have Mz:ae (w0.grownBy w8 (some g)):=Wx.o.trans Sc;have J3:ae (w7.drew=W7):=Qj;clear R8 Sc Qj To Se XJ hu7 ht7 hN7 Qi Wx J1;refine ah (G:=bX) (by kernel_rfl) bX.refl bX.trans (by kernel_rfl) [(0,true),(1,true),(2,true),(3,true),(4,true),(5,true),(6,true),(7,true),(8,false),(9,true),(10,false)] rfl (by kernel_rfl) ?_;intro KK7 Tq;rw[J3.o]
 iterate 8 (refine aa rfl (by rfl) (v:=?_) ?_ ?_;rotate_left;(rintro w' rfl;go_simp;with_reducible rfl);go_simp)
 refine aU (f:=153) (args:=#[.int .u32 (N7.toNat:Int),.int .i64 7]) rfl (by rfl) (by go_simp;rw[HU7.o]) ?_;refine(um N7 7 _ (by omega) (by omega)).mono ?_;rintro e w' ⟨rfl,rfl⟩;refine⟨_,rfl,rfl,?_⟩;rw[R7.o];go_simp
 iterate 1 (refine aa rfl (by rfl) (v:=?_) ?_ ?_;rotate_left;(rintro w' rfl;go_simp;with_reducible rfl);go_simp)
 refine bp rfl (by rfl) (w':=w8) (by rw[←Hw8.o];go_simp) (by kernel_rfl) ?_;go_simp
 refine az Tq ?_;clear Tq J3 Hw8 HU7 R7 cp7 fp7 cq7
 go_wp2
 go_end0
 refine⟨⟨_,rfl⟩,?_,Mz.o⟩;have e:zf l0 a b c d x y=l8:=by unfold zf;rw[yL.o,Qf.o,ZU.o,OQ.o,Ch.o,Ww.o,OT.o,I5.o]
 rw[e];exact J2.o
def cE (i:Nat):bK:=(List.range 16).map λk=>Value.int .u8 ((sig i k:Nat):Int)
theorem Bg (i:Nat):(cE i).length=16:=by simp[cE]
theorem Tr (i k:Nat)(hk:k<16):(cE i).toArray[k]?=some (.int .u8 ((sig i k:Nat):Int)):=by simp[cE,hk]
structure pq (w:aw)(g i:Nat)(m l:List (BitVec 32))(wr:aw):Prop where
 now:Wd wr g 168 l
 m:Wd wr w.heap.size 168 m
 r:wr.heap[w.heap.size+1]?=some (.cells (cE i).toArray 171 (0,0))
 lt:g<w.heap.size
 grown:w.grownBy wr (some g)
theorem pq.next {w wr w':aw}{g i:Nat}{m l l':List (BitVec 32)}(t:pq w g i m l wr)(hs:Wd w' g 168 l')(hg:wr.grownBy w' (some g)):pq w g i m l' w':=by have dN:=t.lt;refine⟨hs,t.m.but (by omega) hg,?_,t.lt,t.grown.trans hg⟩;rw[hg.block _ (gD.1 t.r).1 (λe=>by cases e;omega)];exact t.r
theorem pq.drew {w wr:aw}{g i:Nat}{m l:List (BitVec 32)}(t:pq w g i m l wr):pq w g i m l wr.drew:=t.next t.now (jq wr _)
theorem pq.new (w:aw)(g i:Nat)(m l:List (BitVec 32))(h:Wd w g 168 l):
  pq w g i m l ((w.alloc (.cells (m.map uv).toArray 168)).alloc (.cells (cE i).toArray 171)):=by
 have dN:=h.lt;refine⟨?_,?_,?_,dN,?_⟩
 ·unfold Wd;rw[jE _ _ _ (by simp;omega),jE _ _ _ dN];exact h
 ·unfold Wd;rw[jE _ _ _ (by simp)];exact eC w _
 ·have:=eC (w.alloc (.cells (m.map uv).toArray 168)) (.cells (cE i).toArray 171)
  rwa [fx] at this
 ·have h2:Below w.heap.size w ((w.alloc (.cells (m.map uv).toArray 168)).alloc (.cells (cE i).toArray 171)):=eF.alloc (by simp) _;exact bI.below g h2
theorem pq.mw {w wr w':aw}{g i:Nat}{m l:List (BitVec 32)}(t:pq w g i m l wr)(hb:bI g wr w')(k:Nat)(hk:k<m.length):w'.cell? ⟨w.heap.size,k,none⟩=some (.int .u32 ((bG m k).toNat:Int)):=by have dN:=t.lt;exact((t.m.but (by omega) hb).word k hk).1
theorem pq.rw_ {w wr w':aw}{g i:Nat}{m l:List (BitVec 32)}(t:pq w g i m l wr)(hb:bI g wr w')(k:Nat)(hk:k<16):w'.cell? ⟨w.heap.size+1,k,none⟩=some (.int .u8 ((sig i k:Nat):Int)):=by
 have dN:=t.lt;have hr:w'.heap[w.heap.size+1]?=some (.cells (cE i).toArray 171 (0,0)):=by rw[World.grownBy.block hb _ (gD.1 t.r).1 (λe=>by cases e;omega)];exact t.r
 rw[cell_of_row w' _ k _ _ (0,0) hr];exact Tr i k hk
theorem MA (q c d:Nat)(hq:q<4)(hc:c<4)(hd:d≤12):IntKind.i64.wrap ((d:Int)+(IntKind.i64.wrap ((q:Int)+(c:Int))).tmod 4)=((d+(q+c) % 4:Nat):Int):=by
 have h1:IntKind.i64.wrap ((q:Int)+(c:Int))=((q+c:Nat):Int):=by rw[IntKind.wrap_i64];omega
 have h2:((q+c:Nat):Int).tmod 4=(((q+c) % 4:Nat):Int):=by rw[Int.tmod_eq_emod_of_nonneg (by omega)];omega
 have h3:(q+c) % 4<4:=by omega
 rw[h1,h2];generalize(q+c) % 4=m at h3⊢
 rw[IntKind.wrap_i64];omega
theorem Qk (g i:Nat)(m l:List (BitVec 32))(w:aw)(hl:l.length=16)(hm:m.length=16)(hi:i<10)(hS:Wd w g 168 l):
  Calls prog 129 #[.pointer (some ⟨g,0,none⟩),.agg (m.map uv).toArray,.agg (cE i).toArray] w λe w'=>(∃v,e= .returned v)∧Wd w' g 168 (fk i m 4 (fX i m 4 l))∧w.grownBy w' (some g):=by
 have sB:ae (pq w g i m l ((w.alloc (.cells (m.map uv).toArray 168)).alloc (.cells (cE i).toArray 171))):=pq.new w g i m l hS;clear hS;have jc:∀k,(fX i m k l).length=16:=λk=>by rw[ud,hl]
 have Ae:∀k,(fk i m k (fX i m 4 l)).length=16:=λk=>by rw[qh,jc]
 go_enter func129,ntmps129
 go_wp2
 refine bY (P:=Code.wp prog _ _ _) (R:=λW=>ae (pq w g i m l W)) _ sB ?_;intro W0 pY;clear sB;obtain⟨gm,XK⟩:=aW (w.heap.size);obtain⟨gr,cL⟩:=aW (w.heap.size+1);have xp:ae (∀(l:List (BitVec 32)) (wr w':aw),pq w g i m l wr→bI g wr w'→∀k,k<16→w'.cell? ⟨gm,k,none⟩=some (.int .u32 ((bG m k).toNat:Int))):=λl wr w' t hb k hk=>by rw[←XK];exact t.mw hb k (by omega)
 have pZ:ae (∀(l:List (BitVec 32)) (wr w':aw),pq w g i m l wr→bI g wr w'→∀k,k<16→w'.cell? ⟨gr,k,none⟩=some (.int .u8 ((sig i k:Nat):Int))):=λl wr w' t hb k hk=>by rw[←cL];exact t.rw_ hb k hk
 rw[cL];rw[XK];clear cL XK
 go_loopw [8] (λi' wr=>∃j:Nat,j≤4∧i'= .int .i64 j∧ae (pq w g i m (fX i m j l) wr)) (λi _=>4-(intOf i).toNat)
 case atStart=>exact⟨0,by omega,rfl,pY⟩
 case round=>
  clear pY;obtain⟨j,hj,rfl,hD⟩:=hrel
  by_cases PW:j<4
  ·obtain⟨p1,uX⟩:∃p,4+j=p:=⟨_,rfl⟩;obtain⟨p2,yM⟩:∃p,8+j=p:=⟨_,rfl⟩;obtain⟨p3,Bh⟩:∃p,12+j=p:=⟨_,rfl⟩;obtain⟨q1,Af⟩:∃p,2*j=p:=⟨_,rfl⟩;obtain⟨q2,Ag⟩:∃p,q1+1=p:=⟨_,rfl⟩;have e1:IntKind.i64.wrap ((4:Int)+(j:Int))=(p1:Int):=by rw[IntKind.wrap_i64];omega
   have e2:IntKind.i64.wrap ((8:Int)+(j:Int))=(p2:Int):=by rw[IntKind.wrap_i64];omega
   have e3:IntKind.i64.wrap ((12:Int)+(j:Int))=(p3:Int):=by rw[IntKind.wrap_i64];omega
   have e4:IntKind.i64.wrap ((2:Int)*(j:Int))=(q1:Int):=by rw[IntKind.wrap_i64];omega
   have e5:IntKind.i64.wrap ((q1:Int)+1)=(q2:Int):=by rw[IntKind.wrap_i64];omega
   have ZW:(j:Int)<4:=by omega
   have abQ:(j:Int)<16:=by omega
   have abR:(p1:Int)<16:=by omega
   have abS:(p2:Int)<16:=by omega
   have abT:(p3:Int)<16:=by omega
   have akQ:(q1:Int)<16:=by omega
   have akR:(q2:Int)<16:=by omega
   obtain⟨s1,jF⟩:∃s,sig i q1=s:=⟨_,rfl⟩;obtain⟨s2,iJ⟩:∃s,sig i q2=s:=⟨_,rfl⟩;have akS:s1<16:=by rw[←jF];exact CN i q1 hi (by omega)
   have akT:s2<16:=by rw[←iJ];exact CN i q2 hi (by omega)
   have is1:(s1:Int)<16:=by omega
   have is2:(s2:Int)<16:=by omega
   obtain⟨x,hx⟩:=aW (bG m s1);obtain⟨y,hy⟩:=aW (bG m s2);have Ts:ae (pq w g i m (fX i m j l) wr.drew):=hD.out.drew;have hcj:=jc j;clear hD
   go_wp2
   refine ah (G:=bI g) (by kernel_rfl) (bI.refl g) (bI.trans g) (by kernel_rfl) [(0,true),(1,true),(2,true),(3,true),(4,true),(5,true),(6,true),(7,true),(8,true),(9,true),(10,true),(11,true),(12,true),(13,true),(14,true),(15,true),(16,true),(17,true),(18,true),(19,true),(20,true),(21,true),(22,true),(23,true),(24,true),(25,true),(26,true),(27,true),(28,true),(29,true),(30,true),(31,true),(32,false)] rfl (by kernel_rfl) ?_;intro KK cA;generalize wr.drew=W at Ts
   have BR:∀w',bI g W w'→w'.cell? ⟨gr,q1,none⟩=some (.int .u8 ((s1:Nat):Int)):=λw' hw'=>by rw[←jF];exact pZ.o _ _ _ Ts.o hw' q1 (by omega)
   have zp:∀w',bI g W w'→w'.cell? ⟨gr,q2,none⟩=some (.int .u8 ((s2:Nat):Int)):=λw' hw'=>by rw[←iJ];exact pZ.o _ _ _ Ts.o hw' q2 (by omega)
   have sC:∀w',bI g W w'→w'.cell? ⟨gm,s1,none⟩=some (.int .u32 (x.toNat:Int)):=λw' hw'=>by rw[←hx];exact xp.o _ _ _ Ts.o hw' s1 (by omega)
   have nO:∀w',bI g W w'→w'.cell? ⟨gm,s2,none⟩=some (.int .u32 (y.toNat:Int)):=λw' hw'=>by rw[←hy];exact xp.o _ _ _ Ts.o hw' s2 (by omega)
   iterate 32 (refine aa rfl (by rfl) (v:=?_) ?_ ?_;rotate_left;(intro w' hw';have o1:=BR w' hw';have o2:=zp w' hw';have o3:=sC w' hw';have o4:=nO w' hw';clear hw';go_simp;with_reducible rfl);go_simp)
   refine aU (f:=143) (args:=#[.pointer (some ⟨g,j,none⟩),.pointer (some ⟨g,p1,none⟩),.pointer (some ⟨g,p2,none⟩),.pointer (some ⟨g,p3,none⟩),.int .u32 (x.toNat:Int),.int .u32 (y.toNat:Int)]) rfl (by rfl) (by go_simp) ?_;refine(JX g _ _ j p1 p2 p3 x y _ Ts.o.now (by omega) (by omega) (by omega) (by omega)).mono ?_;rintro e w8 ⟨⟨v,rfl⟩,jm,ql⟩;refine⟨_,rfl,ql,?_⟩;have Sf:ae (pq w g i m (fX i m (j+1) l) w8):=by rw[fX,uX,yM,Bh,Af,Ag,jF,iJ,hx,hy];exact Ts.o.next jm ql
   clear jm ql BR zp sC nO;go_simp
   refine az cA ?_
   go_wp2
   exact⟨⟨j+1,by omega,by go_num,Sf⟩,by simp[intOf];omega⟩
  ·have ej:j=4:=by omega
   have hjr:¬(j:Int)<4:=by omega
   have zB:ae (pq w g i m (fX i m 4 l) wr):=by rw[←ej];exact hD.out
   clear hD
   go_wp2
   go_loopw [45] (λi' wr=>∃j:Nat,j≤4∧i'= .int .i64 j∧ae (pq w g i m (fk i m j (fX i m 4 l)) wr)) (λi _=>4-(intOf i).toNat)
   case atStart=>exact⟨0,by omega,rfl,zB⟩
   case round=>
    clear zB;obtain⟨q,hq,rfl,hE⟩:=hrel
    by_cases ZX:q<4
    ·obtain⟨p1,uX⟩:∃p,4+(q+1) % 4=p:=⟨_,rfl⟩;obtain⟨p2,yM⟩:∃p,8+(q+2) % 4=p:=⟨_,rfl⟩;obtain⟨p3,Bh⟩:∃p,12+(q+3) % 4=p:=⟨_,rfl⟩;have e1:IntKind.i64.wrap ((4:Int)+(IntKind.i64.wrap ((q:Int)+1)).tmod 4)=(p1:Int):=by rw[←uX];exact MA q 1 4 ZX (by omega) (by omega)
     have e2:IntKind.i64.wrap ((8:Int)+(IntKind.i64.wrap ((q:Int)+2)).tmod 4)=(p2:Int):=by rw[←yM];exact MA q 2 8 ZX (by omega) (by omega)
     have e3:IntKind.i64.wrap ((12:Int)+(IntKind.i64.wrap ((q:Int)+3)).tmod 4)=(p3:Int):=by rw[←Bh];exact MA q 3 12 ZX (by omega) (by omega)
     obtain⟨q0,hq0⟩:∃p,2*q=p:=⟨_,rfl⟩;obtain⟨q1,Af⟩:∃p,8+2*q=p:=⟨_,rfl⟩;obtain⟨q2,Ag⟩:∃p,9+2*q=p:=⟨_,rfl⟩;have e4:IntKind.i64.wrap ((2:Int)*(q:Int))=(q0:Int):=by rw[IntKind.wrap_i64];omega
     have e5:IntKind.i64.wrap ((8:Int)+(q0:Int))=(q1:Int):=by rw[IntKind.wrap_i64];omega
     have e6:IntKind.i64.wrap ((q1:Int)+1)=(q2:Int):=by rw[IntKind.wrap_i64];omega
     have hlq:(q:Int)<4:=by omega
     have akU:(q:Int)<16:=by omega
     have abR:(p1:Int)<16:=by omega
     have abS:(p2:Int)<16:=by omega
     have abT:(p3:Int)<16:=by omega
     have akQ:(q1:Int)<16:=by omega
     have akR:(q2:Int)<16:=by omega
     obtain⟨s1,jF⟩:∃s,sig i q1=s:=⟨_,rfl⟩;obtain⟨s2,iJ⟩:∃s,sig i q2=s:=⟨_,rfl⟩;have akS:s1<16:=by rw[←jF];exact CN i q1 hi (by omega)
     have akT:s2<16:=by rw[←iJ];exact CN i q2 hi (by omega)
     have is1:(s1:Int)<16:=by omega
     have is2:(s2:Int)<16:=by omega
     obtain⟨x,hx⟩:=aW (bG m s1);obtain⟨y,hy⟩:=aW (bG m s2);have Tt:ae (pq w g i m (fk i m q (fX i m 4 l)) wr.drew):=hE.out.drew;have hsq:=Ae q;clear hE
     go_wp2
     refine ah (G:=bI g) (by kernel_rfl) (bI.refl g) (bI.trans g) (by kernel_rfl) [(0,true),(1,true),(2,true),(3,true),(4,true),(5,true),(6,true),(7,true),(8,true),(9,true),(10,true),(11,true),(12,true),(13,true),(14,true),(15,true),(16,true),(17,true),(18,true),(19,true),(20,true),(21,true),(22,true),(23,true),(24,true),(25,true),(26,true),(27,true),(28,true),(29,true),(30,true),(31,true),(32,true),(33,true),(34,true),(35,true),(36,true),(37,true),(38,true),(39,true),(40,false)] rfl (by kernel_rfl) ?_;intro KK cA;generalize wr.drew=W at Tt
     have BR:∀w',bI g W w'→w'.cell? ⟨gr,q1,none⟩=some (.int .u8 ((s1:Nat):Int)):=λw' hw'=>by rw[←jF];exact pZ.o _ _ _ Tt.o hw' q1 (by omega)
     have zp:∀w',bI g W w'→w'.cell? ⟨gr,q2,none⟩=some (.int .u8 ((s2:Nat):Int)):=λw' hw'=>by rw[←iJ];exact pZ.o _ _ _ Tt.o hw' q2 (by omega)
     have sC:∀w',bI g W w'→w'.cell? ⟨gm,s1,none⟩=some (.int .u32 (x.toNat:Int)):=λw' hw'=>by rw[←hx];exact xp.o _ _ _ Tt.o hw' s1 (by omega)
     have nO:∀w',bI g W w'→w'.cell? ⟨gm,s2,none⟩=some (.int .u32 (y.toNat:Int)):=λw' hw'=>by rw[←hy];exact xp.o _ _ _ Tt.o hw' s2 (by omega)
     iterate 40 (refine aa rfl (by rfl) (v:=?_) ?_ ?_;rotate_left;(intro w' hw';have o1:=BR w' hw';have o2:=zp w' hw';have o3:=sC w' hw';have o4:=nO w' hw';clear hw';go_simp;with_reducible rfl);go_simp)
     refine aU (f:=143) (args:=#[.pointer (some ⟨g,q,none⟩),.pointer (some ⟨g,p1,none⟩),.pointer (some ⟨g,p2,none⟩),.pointer (some ⟨g,p3,none⟩),.int .u32 (x.toNat:Int),.int .u32 (y.toNat:Int)]) rfl (by rfl) (by go_simp) ?_;refine(JX g _ _ q p1 p2 p3 x y _ Tt.o.now (by omega) (by omega) (by omega) (by omega)).mono ?_;rintro e w8 ⟨⟨v,rfl⟩,jm,ql⟩;refine⟨_,rfl,ql,?_⟩;have I5:ae (pq w g i m (fk i m (q+1) (fX i m 4 l)) w8):=by rw[fk,uX,yM,Bh,Af,Ag,jF,iJ,hx,hy];exact Tt.o.next jm ql
     clear jm ql BR zp sC nO;go_simp
     refine az cA ?_
     go_wp2
     exact⟨⟨q+1,by omega,by go_num,I5⟩,by simp[intOf];omega⟩
    ·have eq:q=4:=by omega
     have hqr:¬(q:Int)<4:=by omega
     have OQ:ae (pq w g i m (fk i m 4 (fX i m 4 l)) wr):=by have:=hE.out;rw[eq] at this;exact this
     clear hE
     go_wp2
     go_end0
     exact⟨⟨_,rfl⟩,OQ.o.now,OQ.o.grown⟩
def rL:bK:=cE 0++cE 1++cE 2++cE 3++cE 4++cE 5++cE 6++cE 7++cE 8++cE 9
structure ke (w:aw):Prop where
 iv:∃t fr,w.heap[1]?=some (.cells (A8.map uv).toArray t fr)
 rows:∃t fr,w.heap[2]?=some (.cells rL.toArray t fr)
theorem ke.lt {w:aw}(h:ke w):1<w.heap.size∧2<w.heap.size:=by obtain⟨⟨t,fr,h1⟩,⟨t',fr',h2⟩⟩:=h;exact⟨(gD.1 h1).1,(gD.1 h2).1⟩
theorem ke.below {B:Nat}{w w':aw}(h:ke w)(hb:Below B w w')(hB:1<B∧2<B):ke w':=by obtain⟨⟨t,fr,h1⟩,⟨t',fr',h2⟩⟩:=h;exact⟨⟨t,fr,by rw[hb.block _ hB.1];exact h1⟩,⟨t',fr',by rw[hb.block _ hB.2];exact h2⟩⟩
theorem ke.later {w w':aw}(h:ke w)(hb:Below w.heap.size w w'):ke w':=h.below hb h.lt
theorem ke.but {w w':aw}{g:Nat}(h:ke w)(hb:w.grownBy w' (some g))(hg:g≠1∧g≠2):ke w':=by have hl:=h.lt;obtain⟨⟨t,fr,h1⟩,⟨t',fr',h2⟩⟩:=h;exact⟨⟨t,fr,by rw[hb.block _ hl.1 (λe=>hg.1 (by cases e;rfl))];exact h1⟩,⟨t',fr',by rw[hb.block _ hl.2 (λe=>hg.2 (by cases e;rfl))];exact h2⟩⟩
theorem ke.word {w:aw}(h:ke w)(i:Nat)(hi:i<8):w.cell? ⟨1,i,none⟩=some (.int .u32 ((bG A8 i).toNat:Int)):=by obtain⟨⟨t,fr,h1⟩,_⟩:=h;rw[cell_of_row w _ i _ t fr h1,oM A8 i (by simpa[A8] using hi)];simp[uv,show i<A8.length by simpa[A8] using hi]
theorem MB:∀i,i<10→∃A B,rL=A++cE i++B∧A.length=16*i:=by
 intro i hi;have hl:=Bg;have:i=0∨i=1∨i=2∨i=3∨i=4∨i=5∨i=6∨i=7∨i=8∨i=9:=by omega
 rcases this with rfl|rfl|rfl|rfl|rfl|rfl|rfl|rfl|rfl|rfl
 ·exact⟨[],cE 1++cE 2++cE 3++cE 4++cE 5++cE 6++cE 7++cE 8++cE 9,by simp[rL],rfl⟩
 ·exact⟨cE 0,cE 2++cE 3++cE 4++cE 5++cE 6++cE 7++cE 8++cE 9,by simp[rL],by simp[hl]⟩
 ·exact⟨cE 0++cE 1,cE 3++cE 4++cE 5++cE 6++cE 7++cE 8++cE 9,by simp[rL],by simp[hl]⟩
 ·exact⟨cE 0++cE 1++cE 2,cE 4++cE 5++cE 6++cE 7++cE 8++cE 9,by simp[rL],by simp[hl]⟩
 ·exact⟨cE 0++cE 1++cE 2++cE 3,cE 5++cE 6++cE 7++cE 8++cE 9,by simp[rL],by simp[hl]⟩
 ·exact⟨cE 0++cE 1++cE 2++cE 3++cE 4,cE 6++cE 7++cE 8++cE 9,by simp[rL],by simp[hl]⟩
 ·exact⟨cE 0++cE 1++cE 2++cE 3++cE 4++cE 5,cE 7++cE 8++cE 9,by simp[rL],by simp[hl]⟩
 ·exact⟨cE 0++cE 1++cE 2++cE 3++cE 4++cE 5++cE 6,cE 8++cE 9,by simp[rL],by simp[hl]⟩
 ·exact⟨cE 0++cE 1++cE 2++cE 3++cE 4++cE 5++cE 6++cE 7,cE 9,by simp[rL],by simp[hl]⟩
 ·exact⟨cE 0++cE 1++cE 2++cE 3++cE 4++cE 5++cE 6++cE 7++cE 8,[],by simp[rL],by simp[hl]⟩
theorem ke.row {w:aw}(h:ke w)(i:Nat)(hi:i<10)(p:Nat)(hp:16*i=p):∀j v,(cE i)[j]?=some v→w.cell? ⟨2,p+j,none⟩=some v:=by obtain⟨_,⟨t,fr,h2⟩⟩:=h;obtain⟨A,B,e,hA⟩:=MB i hi;rw[e] at h2;exact dF A (cE i) B h2 p (by omega)
def bm:Array Value:=((cz 16 0#32).map uv).toArray
def px (p:aO)(k:Nat):List (BitVec 32):=eN p k++cz (16-k) 0#32
theorem Ff (p:aO)(k:Nat)(hk:k≤16):(px p k).length=16:=by simp[px,iM];omega
theorem J4 (p:aO)(k:Nat)(hk:k<16):(px p k).set k (kL p k)=px p (k+1):=by unfold px;rw[List.set_append_right _ _ (by rw[iM];omega),iM,Nat.sub_self,tY,show 16-k=(16-(k+1))+1 by omega,List.replicate_succ,List.set_cons_zero];simp
structure Tl (w:aw)(p:aO)(l:List (BitVec 32))(W:aw):Prop where
 p:dz W w.heap.size 143 p
 res:W.heap[w.heap.size+1]?=some (.cells bm 168 (0,0))
 m:Wd W (w.heap.size+1+1) 168 l
 aY:Below w.heap.size w W
theorem Tl.new (w:aw)(p:aO):Tl w p (px p 0) (((w.alloc (.cells (p.map bv).toArray 143)).alloc (.cells bm 168)).alloc (.cells bm 168)):=by
 have h0:=dz.new w 143 p;have h1:=eC (w.alloc (.cells (p.map bv).toArray 143)) (.cells bm 168);have h2:=eC ((w.alloc (.cells (p.map bv).toArray 143)).alloc (.cells bm 168)) (.cells bm 168);rw[fx] at h1;rw[fx,fx] at h2;refine⟨?_,?_,h2,?_⟩
 ·unfold dz;rw[jE _ _ _ (by simp;omega),jE _ _ _ (by simp)];exact h0
 ·rw[jE _ _ _ (by simp)];exact h1
 ·exact(eF.alloc (by simp) _).alloc (by simp;omega) _
theorem Tl.set {w W:aw}{p:aO}{l:List (BitVec 32)}(t:Tl w p l W)(k:Nat)(x:BitVec 32):Tl w p (l.set k x) (W.setCell ⟨w.heap.size+1+1,k,none⟩ (uv x)):=
 ⟨t.p.other (by omega) _ _,by rw[heap_setCell_other _ ⟨w.heap.size+1+1,k,none⟩ _ _ (by simp)];exact t.res,t.m.set k x,t.aY.setCell (by simp;omega) _⟩
theorem th (p:aO)(w:aw)(hp:p.length=64):
  Calls prog 127 #[.agg (p.map bv).toArray] w λe w'=>e= .returned (.agg ((eN p 16).map uv).toArray)∧Below w.heap.size w w':=by
 have sB:ae (Tl w p (px p 0) (((w.alloc (.cells (p.map bv).toArray 143)).alloc (.cells bm 168)).alloc (.cells bm 168))):=Tl.new w p
 go_enter func127,ntmps127
 go_wp2
 refine bY (P:=Code.wp prog _ _ _) (R:=λW=>ae (Tl w p (px p 0) W)) _ sB ?_;intro W0 pY;clear sB
 go_loopw [7] (λi wr=>∃k:Nat,k≤16∧i= .int .i64 k∧ae (Tl w p (px p k) wr)) (λi _=>16-(intOf i).toNat)
 case atStart=>exact⟨0,by omega,rfl,pY⟩
 case round=>
  clear pY;obtain⟨k,hk,rfl,hT⟩:=hrel
  by_cases dN:k<16
  ·obtain⟨q,hq⟩:=aW (4*k);have e1:(k:Int)*4=(q:Int):=by omega
   have i1:(k:Int)<16:=by omega
   have OU:ae (bj wr (some ⟨w.heap.size,0,none⟩) 64 p):=hT.out.p.nw 64 hp;have HV:ae ((sW p false q 4:Int) % 4294967296=((kL p k).toNat:Int)):=by show _=_;have:=CE p q;rw[tX,hq];omega
   obtain⟨W,hW⟩:=aW (wr.setCell ⟨w.heap.size+1+1,k,none⟩ (uv (kL p k)));have HT:ae (Tl w p (px p (k+1)) W):=by rw[←hW,←J4 p k dN];exact hT.out.set k _
   have HW:ae (wr.setCell ⟨w.heap.size+1+1,k,none⟩ (.int .u32 ((kL p k).toNat:Int))=W):=hW;obtain⟨cc,fr⟩:=hT.out.m.word k (by rw[Ff _ _ hk];omega);clear hW hT
   go_wp2_with fail
   refine(ue w.heap.size 0 64 64 q 4 false p wr (by unfold maxLen;omega) (by omega) OU.o (by omega) (by omega) (by omega)).mono ?_;rintro e w' ⟨rfl,rfl⟩
   go_wp2
   rw[HV.o,HW.o];exact⟨⟨k+1,by omega,by go_num,HT⟩,by simp[intOf];omega⟩
  ·have ek:k=16:=by omega
   have G':¬(k:Int)<16:=by omega
   obtain⟨M,hM⟩:=aW (eN p 16);have vh:M.length=16:=by rw[←hM,iM]
   have HM:ae (eN p 16=M):=hM;have HT:ae (Tl w p M wr):=by
    have:=hT.out;rw[ek] at this;have e:px p 16=M:=by rw[←hM];simp[px]
    rw[e] at this;exact this
   have IB:ae ((prog.info? 168).map (·.size)=some (M.map uv).toArray.size):=jr (n:=16) (by kernel_rfl) M vh;have xA:=aL wr (w.heap.size+1) _ _ (M.map uv) HT.o.res (by simp[vh,bm]) (cj M);have bh:=setRow_heap wr (w.heap.size+1) _ (M.map uv).toArray _ _ HT.o.res;have bR:ae (Below w.heap.size w (wr.setRow (w.heap.size+1) (M.map uv).toArray)):=below_setRow HT.o.aY (by omega) _;obtain⟨W4,fj⟩:=aW (wr.setRow (w.heap.size+1) (M.map uv).toArray);rw[fj] at xA bh bR;have cY:ae (W4.heap[w.heap.size+1]?=some (.cells (M.map uv).toArray 168 (0,0))):=bh;clear bh fj hT hM
   go_wp2_with (first|refine wpList_load_row rfl 168 _ rfl (w.heap.size+1+1) rfl 168 _ (0,0) _ HT.o.m underlying168 rfl IB.out ?_)
   (try simp only[nu,Exit.then])
   refine bodyPost_ret (results_cell_row rfl _ _ (w.heap.size+1) 168 _ (0,0) _ rfl cY.o underlying168 rfl IB.out) rfl ?_;exact⟨by rw[HM.o],bR.o⟩
open Go.ChangeShapes Go.WideShapes Go.ChangeAt Go.RowKit
theorem zr {H:Type}{enc:TypeId×Value→H}{P:Program}{W:aw}{base:Nat}{sp:Nat→Bool}{held:Bool}{fuel n:Nat}{t e:TypeId}{k:IntKind}{cs:bK}{d:DataW H}{p:List MemPlace}
  (ht:P.underlying t=some (.array n e)) (he:P.underlying e=some (.int k)) (hc:P.cellsOf e=1) (hct:P.cellsOf t=n) (h:DataW.trod enc P W base sp held fuel t cs=some (d,p)) (zs:List Int) (hd:d= .agg (zs.map λz=> .lit (.int k z))):
  cs=zs.map λz=> .int k z:=by
 obtain⟨xs,m,rfl,hx,hlen,hn,J5⟩:=DataW.trod_array ht h;simp only[Prod.mk.injEq] at hx;have rm:=hx.1;rw[hd,DataW.agg.injEq] at rm;have hl:zs.length=n:=by
  have:=congrArg List.length rm
  simpa[hn] using this
 apply List.ext_getElem
 ·simp[hl,hlen,hct]
 ·intro i h1 h2;have hi:i<n:=by simp at h2;omega
  have I6:=J5 i hi;rw[hc,Nat.mul_one,List.getElem?_eq_getElem (by omega)] at I6;obtain⟨z,e1,e2,_⟩:=DataW.trod_int he I6;have e3:cs[i]= .int k z:=by
   have:=congrArg (λl:bK=>l[0]?) e1
   simpa[List.getElem?_take,List.getElem?_drop,h1] using this
  have e4:(DataW.lit (.int k (zs[i]'(by omega))):DataW H)=(xs[i]'(by omega)).1:=by
   have:=congrArg (λl:List (DataW H)=>l[i]?) rm
   simpa[show i<zs.length by omega,show i<xs.length by omega] using this
  rw[e2] at e4;have e5:zs[i]'(by omega)=z:=by simpa using e4
  rw[e3];simp[e5]
theorem chunk (l:bK)(i j:Nat)(hj:i+16=j):l.drop i=(l.drop i).take 16++l.drop j:=by rw[←hj,←List.drop_drop];exact(List.take_append_drop 16 _).symm
theorem OV {P:Program}{w:aw}{n:String}{g:Nat}{cs:Array Value}(hg:P.globalNamed n=some g)(h:w.var? P n=some cs):∃t fr,w.heap[g]?=some (.cells cs t fr):=by
 simp only[World.var?,hg,Option.bind_some] at h;split at h
 ·rename_i hh
  cases h
  exact⟨_,_,hh⟩
 ·cases h
def C0 (i:Nat):DataW Unit:=.agg (((List.range 16).map λk=>((sig i k:Nat):Int)).map λz=> .lit (.int .u8 z))
def ivZ:List Int:=A8.map λx=>(x.toNat:Int)
def ivD:DataW Unit:=.agg (ivZ.map λz=> .lit (.int .u32 z))
theorem gIv:prog.globalNamed "hatchway/blake.iv" =some 1:=by kernel_rfl
theorem ZY:prog.globalNamed "hatchway/blake.rows" =some 2:=by kernel_rfl
theorem tIv:(prog.globals[1]?).map (·.type)=some 140:=by kernel_rfl
theorem aga:(prog.globals[2]?).map (·.type)=some 172:=by kernel_rfl
theorem XL:(Rows.laid_hatchway_blake_iv:DataW Unit)=ivD:=by kernel_rfl
theorem Ql:(Rows.laid_hatchway_blake_rows:DataW Unit)= .agg [C0 0,C0 1,C0 2,C0 3,C0 4,C0 5,C0 6,C0 7,C0 8,C0 9]:=by kernel_rfl
theorem J6 {W:aw}{cs0 ZZ:Array Value}{f0 f1:Nat}{p0 p1:List MemPlace}(hv0:W.var? prog "hatchway/blake.iv" =some cs0)(hd0:DataW.trod (λ_=>()) prog W 0 (λ_=>true) false f0 140 cs0.toList=some (Rows.laid_hatchway_blake_iv,p0))
  (hv1:W.var? prog "hatchway/blake.rows" =some ZZ) (rb:DataW.trod (λ_=>()) prog W 0 (λ_=>true) false f1 172 ZZ.toList=some (Rows.laid_hatchway_blake_rows,p1)):ke W:=by
 refine⟨?_,?_⟩
 ·obtain⟨t,fr,h⟩:=OV gIv hv0;have e:=zr underlying140 underlying85 (by kernel_rfl) (by kernel_rfl) hd0 ivZ XL;have e2:cs0=(A8.map uv).toArray:=by rw[←Array.toArray_toList (xs:=cs0),e,ivZ,List.map_map];rfl
  rw[e2] at h;exact⟨t,fr,h⟩
 ·obtain⟨t,fr,h⟩:=OV ZY hv1;obtain⟨xs,m,rfl,hx,hlen,hn,J5⟩:=DataW.trod_array underlying172 rb;simp only[Prod.mk.injEq,Ql,DataW.agg.injEq] at hx;have rm:=hx.1;have c16:prog.cellsOf 171=16:=by kernel_rfl
  have akZ:prog.cellsOf 172=160:=by kernel_rfl
  rw[akZ] at hlen;have bh:∀i,i<10→(ZZ.toList.drop (i*16)).take 16=cE i:=by
   intro i hi;have h1:=J5 i hi;rw[c16,List.getElem?_eq_getElem (by omega)] at h1;have e4:(xs[i]'(by omega)).1=C0 i:=by
    have h3:=congrArg (λl:List (DataW Unit)=>l[i]?) rm;simp only[List.getElem?_map,List.getElem?_eq_getElem (show i<xs.length by omega),Option.map_some] at h3;have C4:i=0∨i=1∨i=2∨i=3∨i=4∨i=5∨i=6∨i=7∨i=8∨i=9:=by omega
    rcases C4 with rfl|rfl|rfl|rfl|rfl|rfl|rfl|rfl|rfl|rfl<;>exact(Option.some.inj h3).symm
   have e5:=zr (d:=(xs[i]'(by omega)).1) (p:=(xs[i]'(by omega)).2) underlying171 underlying5 (by kernel_rfl) (by kernel_rfl) h1 _ e4;rw[e5,List.map_map];rfl
  have e2:ZZ=rL.toArray:=by
   rw[←Array.toArray_toList (xs:=ZZ)]
   congr 1
   have r0:=bh 0 (by omega);have r1:=bh 1 (by omega);have r2:=bh 2 (by omega);have r3:=bh 3 (by omega);have r4:=bh 4 (by omega);have r5:=bh 5 (by omega);have r6:=bh 6 (by omega);have r7:=bh 7 (by omega);have r8:=bh 8 (by omega);have r9:=bh 9 (by omega);simp only[Nat.reduceMul] at r0 r1 r2 r3 r4 r5 r6 r7 r8 r9;have hz:ZZ.toList=ZZ.toList.drop 0:=by simp
   rw[hz,chunk _ 0 16 rfl,chunk _ 16 32 rfl,chunk _ 32 48 rfl,chunk _ 48 64 rfl,chunk _ 64 80 rfl,chunk _ 80 96 rfl,chunk _ 96 112 rfl,chunk _ 112 128 rfl,chunk _ 128 144 rfl,chunk _ 144 160 rfl,
    r0,r1,r2,r3,r4,r5,r6,r7,r8,r9,List.drop_eq_nil_of_le (by omega)]
   simp[rL]
  rw[e2] at h;exact⟨t,fr,h⟩
def sN (chain hash key:aO)(has:Bool)(n:Nat):bK:=chain.map bv++(hash.map bv++dM key has n)
structure sD (W:aw)(g:Nat)(chain hash key:aO)(has:Bool)(n:Nat):Prop where
 row:W.heap[g]?=some (.cells (sN chain hash key has n).toArray 58 (0,0))
 c:chain.length=32
 h:hash.length=32
 k:key.length=32
section
variable {W W':aw} {g:Nat} {chain hash key:aO} {has:Bool} {n:Nat}
theorem sD.lt (x:sD W g chain hash key has n):g<W.heap.size:=(gD.1 x.row).1
theorem sD.later (x:sD W g chain hash key has n)(hb:Below W.heap.size W W'):sD W' g chain hash key has n:=⟨by rw[hb.block g x.lt];exact x.row,x.c,x.h,x.k⟩
theorem sD.but {g':Nat}(x:sD W g chain hash key has n)(hG:W.grownBy W' (some g'))(eL:g≠g'):sD W' g chain hash key has n:=⟨by rw[hG.block g x.lt (λe=>eL (by cases e;rfl))];exact x.row,x.c,x.h,x.k⟩
theorem XM (hc:chain.length=32)(hh:hash.length=32)(hk:key.length=32):(prog.info? 58).map (·.size)=some (sN chain hash key has n).toArray.size:=by
 have e1:(prog.info? 58).map (·.size)=some 98:=by kernel_rfl
 rw[e1];simp[sN,dM,hc,hh,hk]
theorem sD.MC (x:sD W g chain hash key has n):∀j v,(chain.map bv)[j]?=some v→W.cell? ⟨g,0+j,none⟩=some v:=
 dF [] (chain.map bv) _ (by have:=x.row;simpa[sN] using this) 0 rfl
theorem sD.J7 (x:sD W g chain hash key has n):∀j v,(hash.map bv)[j]?=some v→W.cell? ⟨g,32+j,none⟩=some v:=
 dF (chain.map bv) (hash.map bv) _ (by have:=x.row;simpa[sN] using this) 32 (by simp[x.c])
theorem sD.At (x:sD W g chain hash key has n):∀j v,(key.map bv)[j]?=some v→W.cell? ⟨g,64+j,none⟩=some v:=
 dF (chain.map bv++hash.map bv) (key.map bv) [.bool has,.int .u64 (n:Int)] (by have:=x.row;simpa[sN,dM] using this) 64 (by simp[x.c,x.h])
theorem pM {W:aw}{g off n:Nat}{l:aO}(hl:l.length=n)(h:∀j v,(l.map bv)[j]?=some v→W.cell? ⟨g,off+j,none⟩=some v):bj W (some ⟨g,off,none⟩) n l:=by refine⟨hl,.inr ⟨g,off,rfl,λi hi=>?_⟩⟩;rw[h i (.int .u8 ((at8 l i).toNat:Int)) (by rw[List.getElem?_map,cP l i (by omega)];simp[bv,show i<l.length by omega])]
theorem sD.num (x:sD W g chain hash key has n):W.cell? ⟨g,97,none⟩=some (.int .u64 (n:Int))∧W.frozen? ⟨g,97,none⟩=false:=by refine⟨?_,frozen_of_row W g 97 _ _ x.row⟩;rw[cell_of_row W g 97 _ _ (0,0) x.row];simp[sN,dM,x.c,x.h,x.k]
theorem sD.LM (x:sD W g chain hash key has n):W.cell? ⟨g,96,none⟩=some (.bool has)∧W.frozen? ⟨g,96,none⟩=false:=by refine⟨?_,frozen_of_row W g 96 _ _ x.row⟩;rw[cell_of_row W g 96 _ _ (0,0) x.row];simp[sN,dM,x.c,x.h,x.k]
end
structure KC (w:aw)(g t off:Nat)(A B:bK)(key:aO)(has:Bool)(n:Nat):Prop where
 row:w.heap[g]?=some (.cells (A++(dM key has n++B)).toArray t (0,0))
 k:key.length=32
 a:A.length=off
section
variable {w w':aw} {g t off:Nat} {A B:bK} {key:aO} {has:Bool} {n:Nat}
theorem KC.lt (x:KC w g t off A B key has n):g<w.heap.size:=(gD.1 x.row).1
theorem KC.later (x:KC w g t off A B key has n)(hb:Below w.heap.size w w'):KC w' g t off A B key has n:=⟨by rw[hb.block g x.lt];exact x.row,x.k,x.a⟩
theorem KC.agc (x:KC w g t off A B key has n):∀j v,(key.map bv)[j]?=some v→w.cell? ⟨g,off+j,none⟩=some v:=
 dF A (key.map bv) ([.bool has,.int .u64 (n:Int)]++B) (by have:=x.row;simpa[dM] using this) off x.a
theorem KC.LM (x:KC w g t off A B key has n):w.cell? ⟨g,off+32,none⟩=some (.bool has):=by
 have:=dF (A++key.map bv) [.bool has] ([.int .u64 (n:Int)]++B) (by have:=x.row;simpa[dM] using this) (off+32) (by simp[x.a,x.k]) 0 (.bool has) rfl
 simpa using this
theorem KC.num (x:KC w g t off A B key has n):w.cell? ⟨g,off+33,none⟩=some (.int .u64 (n:Int)):=by
 have:=dF (A++(key.map bv++[.bool has])) [.int .u64 (n:Int)] B (by have:=x.row;simpa[dM] using this) (off+33) (by simp[x.a,x.k]) 0 (.int .u64 (n:Int)) rfl
 simpa using this
theorem KC.free (x:KC w g t off A B key has n)(i:Nat):w.frozen? ⟨g,i,none⟩=false:=frozen_of_row w g i _ _ x.row
theorem KC.Qd (x:KC w g t off A B key has n)(m:Nat):KC (w.setCell ⟨g,off+33,none⟩ (.int .u64 (m:Int))) g t off A B key has m:=by
 refine⟨?_,x.k,x.a⟩;rw[heap_setCell_same w g _ _ _ _ x.row]
 congr 2
 have e1:∀q:Nat,A++(dM key has q++B)=(A++(key.map bv++[.bool has]))++(.int .u64 (q:Int)::B):=λq=>by simp[dM]
 have hl:(A++(key.map bv++[Value.bool has])).length=off+33:=by simp[x.a,x.k]
 rw[e1 n,e1 m];simp only[List.setIfInBounds_toArray,Array.mk.injEq];rw[List.set_append_right _ _ (by omega),hl];simp
end
structure KM (w:aw)(g t:Nat)(B:bK)(chain hash key:aO)(has:Bool)(n:Nat):Prop where
 row:w.heap[g]?=some (.cells (sN chain hash key has n++B).toArray t (0,0))
 c:chain.length=32
 h:hash.length=32
 k:key.length=32
section
variable {w w':aw} {g t:Nat} {B:bK} {chain hash key:aO} {has:Bool} {n:Nat}
theorem KM.lt (x:KM w g t B chain hash key has n):g<w.heap.size:=(gD.1 x.row).1
theorem KM.later (x:KM w g t B chain hash key has n)(hb:Below w.heap.size w w'):KM w' g t B chain hash key has n:=⟨by rw[hb.block g x.lt];exact x.row,x.c,x.h,x.k⟩
theorem KM.but {g':Nat}(x:KM w g t B chain hash key has n)(hG:w.grownBy w' (some g'))(eL:g≠g'):KM w' g t B chain hash key has n:=⟨by rw[hG.block g x.lt (λe=>eL (by cases e;rfl))];exact x.row,x.c,x.h,x.k⟩
theorem KM.MC (x:KM w g t B chain hash key has n):∀j v,(chain.map bv)[j]?=some v→w.cell? ⟨g,0+j,none⟩=some v:=
 dF [] (chain.map bv) (hash.map bv++(dM key has n++B)) (by have:=x.row;simpa[sN] using this) 0 rfl
theorem KM.J7 (x:KM w g t B chain hash key has n):∀j v,(hash.map bv)[j]?=some v→w.cell? ⟨g,32+j,none⟩=some v:=
 dF (chain.map bv) (hash.map bv) (dM key has n++B) (by have:=x.row;simpa[sN] using this) 32 (by simp[x.c])
theorem KM.agd (x:KM w g t B chain hash key has n):KC w g t 64 (chain.map bv++hash.map bv) B key has n:=
 ⟨by have:=x.row;simpa[sN] using this,x.k,by simp[x.c,x.h]⟩
theorem KM.age (hc:chain.length=32)(hh:hash.length=32)(x:KC w g t 64 (chain.map bv++hash.map bv) B key has n):KM w g t B chain hash key has n:=
 ⟨by have:=x.row;simpa[sN] using this,hc,hh,x.k⟩
end
open Go.ChangeMaps (open_string shut_string)
theorem own:ownKnob prog.godebug=none:=by kernel_rfl
theorem laidOut:laidOutB prog=true:=by kernel_rfl
def xI (k:IntKind)(w:aw)(a:bW)(len cap:Nat)(zs:List Int):Prop:=
 (a=none∧len=0∧cap=0∧zs=[])∨
 ∃x,a=some x∧len≤cap∧cap≤maxLen∧zs.length=cap∧(∀i,i<zs.length→w.cell? (x.add i)=some (.int k (zs.getD i 0)))∧∀n∈zs,(Lit.int k n).wf=true
theorem SC {H:Type}{enc:TypeId×Value→H}{P:Program}{W:aw}{t e:TypeId}{k:IntKind}{a:bW}{len cap:Nat}{d:DataW H}{p:List MemPlace}
  (ht:P.underlying t=some (.slice e)) (he:P.underlying e=some (.int k)) (hc:P.cellsOf e=1) (h:DataW.Trod enc P W 0 (λ_=>true) true t (.slice a len cap) d p):∃zs,xI k W a len cap zs:=by
 obtain⟨fuel,hf⟩:=h
 rcases open_ints ht he hc hf with⟨gw,_⟩|⟨x,l,c,zs,gw,_,hl,hm,hz,_,fl,hwz⟩
 ·simp[Value.cells] at gw;obtain⟨rfl,rfl,rfl⟩:=gw;exact⟨[],.inl ⟨rfl,rfl,rfl,rfl⟩⟩
 ·simp[Value.cells] at gw;obtain⟨rfl,rfl,rfl⟩:=gw;exact⟨zs,.inr ⟨_,rfl,hl,hm,by simpa using hz,fl,hwz⟩⟩
theorem OW {w:aw}{a:bW}{len cap:Nat}{zs:List Int}(h:xI .u8 w a len cap zs)(c:Nat):
  ∃(l:aO) (m:Nat),(if(c:Int)<(len:Int) then(c:Int) else(len:Int))=(m:Int)∧m≤c∧m≤len∧len≤cap∧cap≤maxLen∧bj w a m l:=by
 rcases h with⟨rfl,rfl,rfl,rfl⟩|⟨x,rfl,ig,m7,hz,fl,hwf⟩
 ·exact⟨[],0,by split<;>omega,by omega,by omega,by omega,by unfold maxLen;omega,rfl,.inl rfl⟩
 ·refine⟨(zs.take (min c len)).map λz=>UInt8.ofNat z.toNat,min c len,by split<;>omega,by omega,by omega,ig,m7,by simp;omega,?_⟩
  by_cases h0:min c len=0
  ·exact .inl h0
  ·right
   obtain⟨b,off,spot⟩:=x;have kt:=fl 0 (by omega);have Tu:spot=none:=by simpa[Addr.add] using World.cell?_spot kt
   subst Tu;refine⟨b,off,rfl,λi hi=>?_⟩;have hc:=fl i (by omega);rw[addr_add] at hc;rw[hc,cP _ _ (by simp;omega)];have hw:=hwf (zs[i]'(by omega)) (List.getElem_mem _);have hb:0≤zs[i]'(by omega)∧zs[i]'(by omega)≤255:=by simpa[Lit.wf,IntKind.min,IntKind.max,IntKind.signed,IntKind.bits] using hw
   simp[show i<zs.length by omega];omega
theorem Tv (x:BitVec 32):((x.toNat:Int)*2 % 4294967296+(x.toNat:Int)/2147483648) % 4294967296=((rotl x 1).toNat:Int):=by
 have hx:=x.isLt;have h:=Jq x 1;have e1:((1:Int) % 32).toNat=1:=by decide
 have e2:((32:Int)-1 % 32).toNat=31:=by decide
 rw[e1,e2] at h;rw[←h];have a1:((x.toNat:Int)*2^1 % 4294967296)=((x.toNat*2 % 4294967296:Nat):Int):=by omega
 have a2:((x.toNat:Int)/2^31)=((x.toNat/2147483648:Nat):Int):=by omega
 rw[a1,a2,u32_or_nat _ _ (by omega) (by omega)];have yN:(x.toNat*2 % 4294967296)|||(x.toNat/2147483648)=x.toNat*2 % 4294967296+x.toNat/2147483648:=by
  have hb:x.toNat/2147483648<2^1:=by omega
  have:=CB (x.toNat % 2147483648) (x.toNat/2147483648) 1 hb;have e:x.toNat % 2147483648*2^1=x.toNat*2 % 4294967296:=by omega
  rwa [e] at this
 rw[yN];omega
theorem Qm (x:BitVec 32):(x.toNat:Int)*2 % 4294967296+(x.toNat:Int)/2147483648=((rotl x 1).toNat:Int):=by have hx:=x.isLt;rw[←Tv];omega
theorem J8 (x:BitVec 32)(k:Nat):((rotl x k).toNat:Int)*2 % 4294967296+((rotl x k).toNat:Int)/2147483648=((rotl x ((k+1:Nat):Int)).toNat:Int):=by rw[Qm,PT];rfl
theorem J9 (x:BitVec 32)(n m:Int)(h:n % 32=m % 32):rotl x n=rotl x m:=by unfold rotl;rw[h]
theorem C5 (x:BitVec 32)(n:Int)(w:aw):
  Calls prog 144 #[.int .u32 (x.toNat:Int),.int .i64 n] w λe w'=>e= .returned (.int .u32 ((rotl x n).toNat:Int))∧w'=w:=by
 obtain⟨t,ht⟩:=aW (n.tmod 32);have hb:-32<t∧t<32∧((0≤t∧n % 32=t)∨(t<0∧n % 32=t+32)):=by
  rw[←ht]
  rcases Int.le_total 0 n with h|h
  ·rw[Int.tmod_eq_emod_of_nonneg h];omega
  ·have e:n.tmod 32= -((-n).tmod 32):=by rw[Int.neg_tmod];omega
   rw[e,Int.tmod_eq_emod_of_nonneg (by omega)];omega
 obtain⟨ck,cM,eZ⟩:=hb
 by_cases h0:t<0
 ·have hm:n % 32=t+32:=by omega
  have HM:ae (n % 32=t+32):=hm;clear eZ hm
  go_enter func144,ntmps144
  go_wp2
  go_loop [0,5] (λc i=>∃k:Nat,(k:Int)≤t+32∧i= .int .i64 k∧c= .int .u32 ((rotl x k).toNat:Int)) (λ_ i=>(t+32-intOf i).toNat)
  case atStart=>exact⟨0,by omega,rfl,by rw[show rotl x ((0:Nat):Int)=x from Jr x]⟩
  case round=>
   obtain⟨k,hk,rfl,rfl⟩:=hrel;have ak0:=(rotl x k).isLt
   by_cases dN:(k:Int)<t+32
   ·go_wp2
    exact⟨⟨k+1,by omega,by go_num,by rw[J8]⟩,by simp[intOf];omega⟩
   ·have HE:ae (rotl x k=rotl x n):=J9 x k n (by rw[HM.o];omega)
    go_wp2
    go_ret
    exact⟨GW (by rw[HE.o]),rfl⟩
 ·have hm:n % 32=t:=by omega
  have h0':0≤t:=by omega
  have HM:ae (n % 32=t):=hm;clear eZ hm
  go_enter func144,ntmps144
  go_wp2
  go_loop [0,5] (λc i=>∃k:Nat,(k:Int)≤t∧i= .int .i64 k∧c= .int .u32 ((rotl x k).toNat:Int)) (λ_ i=>(t-intOf i).toNat)
  case atStart=>exact⟨0,by omega,rfl,by rw[show rotl x ((0:Nat):Int)=x from Jr x]⟩
  case round=>
   obtain⟨k,hk,rfl,rfl⟩:=hrel;have ak0:=(rotl x k).isLt
   by_cases dN:(k:Int)<t
   ·go_wp2
    exact⟨⟨k+1,by omega,by go_num,by rw[J8]⟩,by simp[intOf];omega⟩
   ·have HE:ae (rotl x k=rotl x n):=J9 x k n (by rw[HM.o];omega)
    go_wp2
    go_ret
    exact⟨GW (by rw[HE.o]),rfl⟩
theorem C6 (x y:UInt8):(IntKind.u8.wrap (bits .or .u8 (x.toNat:Int) (y.toNat:Int)-bits .and .u8 (x.toNat:Int) (y.toNat:Int)))=((x^^^y).toNat:Int):=by
 have hx:=x.toNat_lt;have hy:=y.toNat_lt;have e1:x.toNat|||y.toNat=(x.toNat^^^y.toNat)+(x.toNat&&&y.toNat):=by
  have hz:(x.toBitVec^^^y.toBitVec)&&&(x.toBitVec&&&y.toBitVec)=0#8:=by apply BitVec.eq_of_getLsbD_eq;intro i hi;simp only[BitVec.getLsbD_and,BitVec.getLsbD_xor,BitVec.getLsbD_zero];cases x.toBitVec.getLsbD i<;>cases y.toBitVec.getLsbD i<;>rfl
  have ho:(x.toBitVec^^^y.toBitVec)|||(x.toBitVec&&&y.toBitVec)=x.toBitVec|||y.toBitVec:=by apply BitVec.eq_of_getLsbD_eq;intro i hi;simp only[BitVec.getLsbD_and,BitVec.getLsbD_xor,BitVec.getLsbD_or];cases x.toBitVec.getLsbD i<;>cases y.toBitVec.getLsbD i<;>rfl
  have hs:=BitVec.add_eq_or_of_and_eq_zero _ _ hz;have h1:(x.toNat^^^y.toNat)|||(x.toNat&&&y.toNat)=x.toNat|||y.toNat:=by
   have:=congrArg BitVec.toNat ho
   simpa using this
  have h2:=congrArg BitVec.toNat hs;rw[BitVec.toNat_add] at h2;simp only[BitVec.toNat_xor,BitVec.toNat_and,BitVec.toNat_or,UInt8.toNat_toBitVec] at h2;have b1:x.toNat|||y.toNat<2^8:=Nat.or_lt_two_pow hx hy
  rw[h1] at h2;have b2:(x.toNat^^^y.toNat)<2^8:=Nat.xor_lt_two_pow hx hy;have b3:(x.toNat&&&y.toNat)<2^8:=Nat.and_lt_two_pow _ hy;have b4:(x.toNat^^^y.toNat)≤x.toNat|||y.toNat:=by rw[←h1];exact Nat.left_le_or
  have b5:(x.toNat&&&y.toNat)≤x.toNat|||y.toNat:=by rw[←h1];exact Nat.right_le_or
  omega
 rw[u8_or_nat _ _ hx hy,u8_and_nat _ _ hx hy,e1,UInt8.toNat_xor,IntKind.wrap_u8'];have b2:(x.toNat^^^y.toNat)<2^8:=Nat.xor_lt_two_pow hx hy;omega
theorem MD (a b:bW)(len cap eg fT:Nat)(l m:aO)(w:aw)(hA:bj w a len l)(hB:bj w b eg m)(EU:len≤1000000)(FN:eg≤1000000):
  Calls prog 125 #[.slice a len cap,.slice b eg fT] w λe w'=>∃a' cK,e= .returned (.slice a' (min len eg) cK)∧Below w.heap.size w w'∧bj w' a' (min len eg) (kU l m):=by
 obtain⟨n,hn⟩:∃n,n=min len eg:=⟨_,rfl⟩;rw[←hn];have Hn:ae (n=min len eg):=hn;have s9:n≤len:=by omega
 have tL:n≤eg:=by omega
 have CZ:len≤n∨eg≤n:=by omega
 clear hn
 go_enter func125,ntmps125
 go_wp2
 go_loopw [5,6] (λv i wr=>∃(k:Nat) (a':bW) (cK:Nat),k≤n∧i= .int .i64 k∧v= .slice a' k cK∧dJ wr 5 a' k cK (((kU l m).take k).map bv)∧(∀j,bL a'=some j→w.heap.size≤j)∧Below w.heap.size w wr) (λ_ i _=>n-(intOf i).toNat)
 case atStart=>
  exact⟨0,some ⟨w.heap.size,0,none⟩,0,Nat.zero_le _,rfl,rfl,⟨rfl,.inr ⟨w.heap.size,0,#[],rfl,eC w _,by simp,di _,λi hi=>by omega⟩⟩,by intro j hj;simp[bL] at hj;omega,(bZ _ _).alloc (di _) _⟩
 case round=>
  obtain⟨k,a',cK,hk,rfl,rfl,vE,kW,fe⟩:=hrel;have Xj:=hA.1;have Wq:=hB.1
  by_cases dN:k<n
  ·rcases hA.2 with h0|⟨ba,fz,rfl,GY⟩
   ·omega
   rcases hB.2 with h0|⟨bb,CR,rfl,rf⟩
   ·omega
   have JB:=GY k (by omega);have JC:=rf k (by omega);have JD:=World.block_lt_of_cell? w _ JB;have BN:=World.block_lt_of_cell? w _ JC;have i1:(k:Int)<(len:Int):=by omega
   have i2:(k:Int)<(eg:Int):=by omega
   go_wp2
   refine ah (G:=Below w.heap.size) (by kernel_rfl) (bZ _) (λ_ _ _=>Below.trans) (by kernel_rfl) [(0,true),(1,true),(2,true),(3,true),(4,true),(5,true),(6,true),(7,true),(8,true),(9,true),(10,true),(11,true),(12,true),(13,true),(14,true),(15,true),(16,true),(17,true),(18,true),(19,true),(20,false),(21,false),(22,true)] rfl (by kernel_rfl) ?_;intro KK cA;have Fg:Below w.heap.size w wr.drew:=fe.drew;obtain⟨W,hW⟩:=aW (wr.drew);rw[hW];rw[hW] at Fg;have oR:∀w',Below w.heap.size W w'→w'.cell? ⟨ba,fz+k,none⟩=some (.int .u8 ((at8 l k).toNat:Int)):=λw' h=>by rw[(Fg.trans h).cell (p:=⟨ba,fz+k,none⟩) JD];exact JB
   have om:∀w',Below w.heap.size W w'→w'.cell? ⟨bb,CR+k,none⟩=some (.int .u8 ((at8 m k).toNat:Int)):=λw' h=>by rw[(Fg.trans h).cell (p:=⟨bb,CR+k,none⟩) BN];exact JC
   iterate 20 (refine aa rfl (by rfl) (v:=?_) ?_ ?_;rotate_left;(intro w' hw';have q1:=oR w' hw';have q2:=om w' hw';go_simp;with_reducible rfl);go_simp)
   have Z0:dJ W 5 a' k cK (((kU l m).take k).map bv):=vE.kept λg _=>by rw[←hW];rfl
   have jH:W.heap.size=wr.heap.size:=by rw[←hW];rfl
   obtain⟨i0,hi,uf,pH,uZ⟩:=info_parts Tryz.infoU8;obtain⟨a2,Fh,w2,jS,iJ,cL,Mp,abV⟩:=oh (P:=prog) 22 22 5 i0 (.int .u8 0) 1 underlying22 hi uf pH uZ rfl W a' k cK _ Z0 (bv (at8 l k^^^at8 m k)) rfl (by unfold maxLen;omega) (by omega);refine fZ rfl (by rfl) (v:=.slice (some ⟨W.heap.size,0,none⟩) 1 1) (w':=W.alloc (.cells #[bv (at8 l k^^^at8 m k)] 5)) ?_ ((bZ _ _).alloc Fg.size _) ?_
   ·rw[bv,←C6];go_simp
   ·refine ki rfl (by rfl) rfl (by rfl) (by rfl) jS (zl cL abV Fg.size kW _) ?_;go_simp
    refine aa rfl (by rfl) (v:=?_) ?_ ?_
    rotate_left
    ·intro w' hw';go_simp;with_reducible rfl
    go_simp
    have cM:Below w.heap.size w w2:=Fg.trans (((bZ _ _).alloc Fg.size _).trans (zl cL abV Fg.size kW (.cells #[bv (at8 l k^^^at8 m k)] 5)));have ur:ae (dJ w2 5 a2 (k+1) Fh (((kU l m).take (k+1)).map bv)):=by rw[tW _ _ (by rw[gR];omega),GX _ _ _ (by omega) (by omega),List.map_append];exact iJ
    have Qn:ae (∀j,bL a2=some j→w.heap.size≤j):=by
     intro j hj
     rcases Mp with e|e
     ·exact kW j (by rw[←e];exact hj)
     ·have:=e j hj;have:=Fg.size;omega
    clear iJ Mp jS cL oR om Z0 GY rf;refine az cA ?_
    go_wp2
    exact⟨⟨k+1,a2,Fh,by omega,by go_num,rfl,ur.out,Qn.out,cM⟩,by simp[intOf];omega⟩
  ·have ek:k=n:=by omega
   subst ek
   by_cases hk2:(k:Int)<(len:Int)
   ·have Cj:¬(k:Int)<(eg:Int):=by omega
    go_wp2
    go_ret
    refine⟨a',⟨cK,rfl⟩,fe,?_⟩;have hf:=bj.gS vE
    rwa [su (by rw[gR,Xj,Wq,←Hn.o];exact di _)] at hf
   ·go_wp2
    go_ret
    refine⟨a',⟨cK,rfl⟩,fe,?_⟩;have hf:=bj.gS vE
    rwa [su (by rw[gR,Xj,Wq,←Hn.o];exact di _)] at hf
end Go.Proofs.YtkdpblbhcfhagaaGreatDoor
